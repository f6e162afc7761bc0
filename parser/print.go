package parser

import (
	"strconv"
	"strings"

	"debugger/api"
)

// printer collects the text of a program.
type printer struct{ text strings.Builder }

// Print returns a program as a source text.
func Print(p api.Program) string {
	w := &printer{}
	for _, r := range p.Records {
		w.add("record ", r.Name, " { ", strings.Join(r.Fields, ", "), " }\n")
	}
	for _, f := range p.Funcs {
		w.add("func ", f.Name, "(", strings.Join(f.Params, ", "), ") {\n")
		w.block(1, f.Body)
		w.add("}\n")
	}
	return w.text.String()
}

func (w *printer) add(parts ...string) {
	for _, s := range parts {
		w.text.WriteString(s)
	}
}

func (w *printer) tabs(n int) {
	for range n {
		w.text.WriteByte('\t')
	}
}

// block writes the statements of a block that lies, itself included, in so many blocks.
func (w *printer) block(blocks int, list []api.Stmt) {
	for _, s := range list {
		if s.Kind != api.StmtEnd {
			w.tabs(blocks)
			w.statement(blocks, s)
			w.add("\n")
		}
	}
}

// inner writes the statements of a block of a statement, and the closing brace.
func (w *printer) inner(blocks int, list []api.Stmt) {
	w.add("{\n")
	w.block(blocks+1, list)
	w.tabs(blocks)
	w.add("}")
}

// statement writes a statement without the tabs of its first line and the last line feed.
func (w *printer) statement(blocks int, s api.Stmt) {
	switch s.Kind {
	case api.StmtDeclare:
		w.declaration(s)
	case api.StmtAssign, api.StmtCall:
		if len(s.Target) > 0 {
			w.list(s.Target)
			w.add(" = ")
		}
		w.value(s)
	case api.StmtReturn:
		w.add("return ")
		w.value(s)
	case api.StmtThrow:
		w.add("throw ")
		w.value(s)
	case api.StmtPrint:
		w.add("print ")
		w.value(s)
	case api.StmtIf:
		w.add("if ")
		w.list(s.Args)
		w.add(" ")
		w.inner(blocks, s.Body)
		if len(s.Else) > 0 {
			w.add(" else ")
			w.inner(blocks, s.Else)
		}
	case api.StmtWhile:
		w.add("while ")
		w.list(s.Args)
		w.add(" ")
		w.inner(blocks, s.Body)
	case api.StmtTry:
		w.add("try ")
		w.inner(blocks, s.Body)
		w.add(" catch ", s.Name, " ")
		w.inner(blocks, s.Else)
	}
}

func (w *printer) declaration(s api.Stmt) {
	w.add("var ", s.Name, ": ")
	switch {
	case s.Type != "":
		w.add(s.Type)
	case s.Len != 0:
		w.add("int[", strconv.Itoa(s.Len), "]")
	default:
		w.add("int")
	}
	w.add(";")
}

// value writes the expression or the call at the end of a statement.
func (w *printer) value(s api.Stmt) {
	if s.Func != "" {
		w.add(s.Func, "(")
		w.list(s.Args)
		w.add(");")
		return
	}
	w.list(s.Args)
	w.add(";")
}

// list writes expressions with commas between them. A statement's only expression is written as a list too, since a program that Parse did not return may lack it.
func (w *printer) list(args []api.Expr) {
	for i, e := range args {
		if i > 0 {
			w.add(", ")
		}
		w.expression(e)
	}
}

func (w *printer) expression(e api.Expr) {
	switch e.Op {
	case api.ExprLiteral:
		w.add(strconv.Itoa(e.Number))
	case api.ExprVariable:
		w.add(e.Name)
	case api.ExprField:
		w.add(e.Name, ".", e.Field)
	case api.ExprElement:
		w.add(e.Name, "[")
		w.list(e.Args)
		w.add("]")
	case api.ExprNegate:
		w.prefixed("-", e.Args)
	case api.ExprNot:
		w.prefixed("!", e.Args)
	default:
		w.operation(e)
	}
}

func (w *printer) prefixed(sign string, args []api.Expr) {
	w.add(sign)
	for _, a := range args {
		w.operand(rankUnary, a)
	}
}

func (w *printer) operation(e api.Expr) {
	o, ok := operatorOf(e)
	if !ok || len(e.Args) != 2 {
		return
	}
	w.operand(max(o.rank, rankCompare+1), e.Args[0])
	w.add(" ", o.sign, " ")
	w.operand(o.rank+1, e.Args[1])
}

// operand writes an expression, in parentheses if its rank is below the least one that its place allows.
func (w *printer) operand(least int, e api.Expr) {
	if rankOf(e) < least {
		w.add("(")
		w.expression(e)
		w.add(")")
		return
	}
	w.expression(e)
}

// operatorOf returns the operator of an operation with two operands, and whether the expression is one.
func operatorOf(e api.Expr) (operator, bool) {
	if e.Op < api.ExprAdd || e.Op > api.ExprNotEqual {
		return operator{}, false
	}
	return operators[e.Op-api.ExprAdd], true
}

func rankOf(e api.Expr) int {
	if o, ok := operatorOf(e); ok {
		return o.rank
	}
	return rankUnary
}
