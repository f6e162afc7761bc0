package parser

import (
	"fmt"
	"slices"
	"strconv"
	"strings"
	"testing"

	"debugger/api"
	"debugger/lexer"
)

func number(n int) api.Expr { return api.Expr{Op: api.ExprLiteral, Number: n} }

func variable(name string) api.Expr { return api.Expr{Op: api.ExprVariable, Name: name} }

func field(name, of string) api.Expr {
	return api.Expr{Op: api.ExprField, Name: name, Field: of}
}

func element(name string, index api.Expr) api.Expr {
	return api.Expr{Op: api.ExprElement, Name: name, Args: one(index)}
}

func operation(op int, args ...api.Expr) api.Expr { return api.Expr{Op: op, Args: args} }

func one(e api.Expr) []api.Expr { return []api.Expr{e} }

func end(line int) api.Stmt { return api.Stmt{Kind: api.StmtEnd, Line: line} }

// signs returns the signs of ExprAdd to ExprNotEqual, in this order.
func signs() []string { return strings.Fields("+ - * / % & | ^ < <= == !=") }

// levelOf returns the level of the grammar to which an operator belongs, the loosest one first.
func levelOf(op int) int {
	for i, l := range []string{"< <= == !=", "& | ^", "+ -", "* / %"} {
		if slices.Contains(strings.Fields(l), signs()[op-api.ExprAdd]) {
			return i
		}
	}
	return -1
}

// key returns a text that two values have in common only if they are the same; nil and empty slices are.
func key(v any) string { return fmt.Sprintf("%+v", v) }

// spread returns the text with each of its tokens in a line of its own.
func spread(text string) string { return strings.Join(split(text), "\n") + "\n" }

// split returns the texts of the tokens of a text.
func split(text string) []string {
	tokens, _, e := lexer.Scan(text)
	if e != api.OK {
		panic("no tokens: " + text)
	}
	list := []string{}
	for _, t := range tokens[:len(tokens)-1] {
		if t.Kind == api.TokenNumber {
			t.Text = strconv.Itoa(t.Number)
		}
		list = append(list, t.Text)
	}
	return list
}

// withoutLines returns a program with all its lines 0.
func withoutLines(p api.Program) api.Program {
	p.Funcs = slices.Clone(p.Funcs)
	for i, f := range p.Funcs {
		p.Funcs[i].Line = 0
		p.Funcs[i].Body = statementsWithoutLines(f.Body)
	}
	return p
}

func statementsWithoutLines(list []api.Stmt) []api.Stmt {
	list = slices.Clone(list)
	for i, s := range list {
		list[i].Line = 0
		list[i].Body = statementsWithoutLines(s.Body)
		list[i].Else = statementsWithoutLines(s.Else)
	}
	return list
}

// expect checks that a text is this program.
func expect(t *testing.T, promise, text string, want api.Program) {
	t.Helper()
	got, line, e := Parse(text)
	if key(got) != key(want) || line != 0 || e != api.OK {
		t.Errorf("%s: Parse(%.300q) = %.300s, %d, %d, not %+v", promise, text, key(got), line, e, want)
	}
}

// expectBody checks that these statements, in the lines from 2 on, are this body of a function, its end aside.
func expectBody(t *testing.T, promise, text string, want ...api.Stmt) {
	t.Helper()
	last := 2 + strings.Count(text, "\n")
	f := api.Func{Name: "f", Line: 1, Body: append(want, end(last))}
	expect(t, promise, "func f() {\n"+text+"}", api.Program{Funcs: []api.Func{f}})
}

// expectValue checks that the text of an expression is this expression, wherever one may stand.
func expectValue(t *testing.T, promise, text string, want api.Expr) {
	t.Helper()
	for _, c := range []struct {
		text string
		s    api.Stmt
	}{
		{"print " + text + ";", api.Stmt{Kind: api.StmtPrint, Args: one(want)}},
		{"throw " + text + ";", api.Stmt{Kind: api.StmtThrow, Args: one(want)}},
		{"return " + text + ";", api.Stmt{Kind: api.StmtReturn, Args: one(want)}},
		{"if " + text + " {}", api.Stmt{Kind: api.StmtIf, Args: one(want)}},
		{"while " + text + " {}", api.Stmt{Kind: api.StmtWhile, Args: one(want)}},
		{"x = " + text + ";", api.Stmt{Kind: api.StmtAssign, Target: one(variable("x")), Args: one(want)}},
		{"f(" + text + ");", api.Stmt{Kind: api.StmtCall, Func: "f", Args: one(want)}},
		{"return g(1, " + text + ");", api.Stmt{Kind: api.StmtReturn, Func: "g", Args: []api.Expr{number(1), want}}},
		{"x[" + text + "] = (" + text + ");", api.Stmt{Kind: api.StmtAssign, Target: one(element("x", want)), Args: one(want)}},
	} {
		c.s.Line = 2
		expectBody(t, promise, c.text, c.s)
	}
}

// refuse checks that a text has this error in this line.
func refuse(t *testing.T, promise, text string, line int, want api.Errno) {
	t.Helper()
	p, l, e := Parse(text)
	if key(p) != key(api.Program{}) || l != line || e != want {
		t.Errorf("%s: Parse(%.300q) = %.300s, %d, %d, not the error %d in line %d", promise, text, key(p), l, e, want, line)
	}
}

// refuseAt checks that a text, spread, has this error at its token "@", in whose place it has what follows it.
func refuseAt(t *testing.T, promise, text string, want api.Errno) {
	t.Helper()
	ahead, behind, ok := strings.Cut(text, "@")
	if !ok {
		t.Fatalf("%q has no place of the error", text)
	}
	line := len(split(ahead)) + 1
	refuse(t, promise, spread(ahead+" "+behind), line, want)
}

// expectPrint checks the text of these statements in a function.
func expectPrint(t *testing.T, promise string, want string, body ...api.Stmt) {
	t.Helper()
	f := api.Func{Name: "f", Line: 3, Body: append(body, end(9))}
	if got := Print(api.Program{Funcs: []api.Func{f}}); got != "func f() {\n"+want+"}\n" {
		t.Errorf("%s: Print = %q, not %q", promise, got, want)
	}
}
