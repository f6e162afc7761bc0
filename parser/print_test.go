package parser

import (
	"math"
	"slices"
	"strings"
	"testing"

	"debugger/api"
)

func TestExample(t *testing.T) {
	p, _, _ := Parse("func f(a){return (a+1)*2;}")
	if got := Print(p); got != "func f(a) {\n\treturn (a + 1) * 2;\n}\n" {
		t.Errorf("P3.4: Print = %q", got)
	}
}

func TestPrintPrograms(t *testing.T) {
	for want, p := range map[string]api.Program{
		"":                    {},
		"record R { a }\n":    {Records: []api.Record{{Name: "R", Fields: []string{"a"}}}},
		"func f() {\n}\n":     {Funcs: []api.Func{{Name: "f", Line: 1, Body: []api.Stmt{end(1)}}}},
		"func f(a) {\n}\n":    {Funcs: []api.Func{{Name: "f", Line: 4, Params: []string{"a"}, Body: []api.Stmt{end(9)}}}},
		"func f(a, b) {\n}\n": {Funcs: []api.Func{{Name: "f", Params: []string{"a", "b"}, Body: []api.Stmt{end(9)}}}},
		"record R { a, b }\nrecord S { x, y, z }\nfunc f() {\n}\nfunc g(p, q, r) {\n}\n": {
			Records: []api.Record{{Name: "R", Fields: []string{"a", "b"}}, {Name: "S", Fields: []string{"x", "y", "z"}}},
			Funcs:   []api.Func{{Name: "f", Body: []api.Stmt{end(1)}}, {Name: "g", Params: []string{"p", "q", "r"}, Body: []api.Stmt{end(2)}}},
		},
	} {
		if got := Print(p); got != want {
			t.Errorf("P3.4: Print = %q, not %q", got, want)
		}
	}
}

func TestPrintStatements(t *testing.T) {
	x, y := variable("x"), variable("y")
	inner := []api.Stmt{{Kind: api.StmtPrint, Args: one(x)}, {Kind: api.StmtThrow, Args: one(y)}}
	for _, c := range []struct {
		want string
		s    api.Stmt
	}{
		{"var t: int;\n", api.Stmt{Kind: api.StmtDeclare, Name: "t"}},
		{"var t: int[3];\n", api.Stmt{Kind: api.StmtDeclare, Name: "t", Len: 3}},
		{"var t: R;\n", api.Stmt{Kind: api.StmtDeclare, Name: "t", Type: "R"}},
		{"x = y;\n", api.Stmt{Kind: api.StmtAssign, Target: one(x), Args: one(y)}},
		{"x.a = 1;\n", api.Stmt{Kind: api.StmtAssign, Target: one(field("x", "a")), Args: one(number(1))}},
		{"x[y + 1] = 1;\n", api.Stmt{Kind: api.StmtAssign, Target: one(element("x", operation(api.ExprAdd, y, number(1)))), Args: one(number(1))}},
		{"x = f();\n", api.Stmt{Kind: api.StmtCall, Target: one(x), Func: "f"}},
		{"x.a = f(1);\n", api.Stmt{Kind: api.StmtCall, Target: one(field("x", "a")), Func: "f", Args: one(number(1))}},
		{"x[1] = f(x, y);\n", api.Stmt{Kind: api.StmtCall, Target: one(element("x", number(1))), Func: "f", Args: []api.Expr{x, y}}},
		{"f();\n", api.Stmt{Kind: api.StmtCall, Func: "f"}},
		{"f(x, 1 + 2, -y);\n", api.Stmt{Kind: api.StmtCall, Func: "f", Args: []api.Expr{x, operation(api.ExprAdd, number(1), number(2)), operation(api.ExprNegate, y)}}},
		{"return x;\n", api.Stmt{Kind: api.StmtReturn, Args: one(x)}},
		{"return -x;\n", api.Stmt{Kind: api.StmtReturn, Args: one(operation(api.ExprNegate, x))}},
		{"return f();\n", api.Stmt{Kind: api.StmtReturn, Func: "f"}},
		{"return f(x, y);\n", api.Stmt{Kind: api.StmtReturn, Func: "f", Args: []api.Expr{x, y}}},
		{"throw 7;\n", api.Stmt{Kind: api.StmtThrow, Args: one(number(7))}},
		{"print !x;\n", api.Stmt{Kind: api.StmtPrint, Args: one(operation(api.ExprNot, x))}},
		{"if x {\n}\n", api.Stmt{Kind: api.StmtIf, Args: one(x)}},
		{"if x < y {\n\tprint x;\n\tthrow y;\n}\n", api.Stmt{Kind: api.StmtIf, Args: one(operation(api.ExprLess, x, y)), Body: inner}},
		{"if x {\n} else {\n\tprint x;\n\tthrow y;\n}\n", api.Stmt{Kind: api.StmtIf, Args: one(x), Else: inner}},
		{"if x {\n\tprint x;\n\tthrow y;\n} else {\n\tprint x;\n\tthrow y;\n}\n", api.Stmt{Kind: api.StmtIf, Args: one(x), Body: inner, Else: inner}},
		{"while 1 {\n}\n", api.Stmt{Kind: api.StmtWhile, Args: one(number(1))}},
		{"while x {\n\tprint x;\n\tthrow y;\n}\n", api.Stmt{Kind: api.StmtWhile, Args: one(x), Body: inner}},
		{"try {\n} catch e {\n}\n", api.Stmt{Kind: api.StmtTry, Name: "e"}},
		{"try {\n\tprint x;\n\tthrow y;\n} catch e {\n}\n", api.Stmt{Kind: api.StmtTry, Name: "e", Body: inner}},
		{"try {\n} catch e {\n\tprint x;\n\tthrow y;\n}\n", api.Stmt{Kind: api.StmtTry, Name: "e", Else: inner}},
	} {
		once := indented(c.want, 1)
		expectPrint(t, "P3.4", once, c.s)
		expectPrint(t, "P3.4", once+once, c.s, c.s)
		expectPrint(t, "P3.4", "\twhile x {\n"+indented(c.want, 2)+"\t}\n", api.Stmt{Kind: api.StmtWhile, Args: one(x), Body: []api.Stmt{c.s}})
		expectPrint(t, "P3.4", "\tif x {\n"+indented(c.want, 2)+"\t} else {\n"+indented(c.want+c.want, 2)+"\t}\n",
			api.Stmt{Kind: api.StmtIf, Args: one(x), Body: []api.Stmt{c.s}, Else: []api.Stmt{c.s, c.s}})
		deep := api.Stmt{Kind: api.StmtTry, Name: "e", Body: []api.Stmt{{Kind: api.StmtTry, Name: "e", Else: []api.Stmt{c.s}}}}
		expectPrint(t, "P3.4", "\ttry {\n\t\ttry {\n\t\t} catch e {\n"+indented(c.want, 3)+"\t\t}\n\t} catch e {\n\t}\n", deep)
	}
}

// indented returns lines with so many tabs ahead of each.
func indented(lines string, tabs int) string {
	s := ""
	for l := range strings.Lines(lines) {
		s += strings.Repeat("\t", tabs) + l
	}
	return s
}

func TestPrintExpressions(t *testing.T) {
	a, b, c := variable("a"), variable("b"), variable("c")
	sum := operation(api.ExprAdd, a, b)
	less := operation(api.ExprLess, a, b)
	minus := operation(api.ExprNegate, a)
	for want, e := range map[string]api.Expr{
		"0":                      number(0),
		"999999999999999999":     number(999999999999999999),
		"a":                      a,
		"a.b":                    field("a", "b"),
		"a[b]":                   element("a", b),
		"a[a + b]":               element("a", sum),
		"a[a < b]":               element("a", less),
		"a[-a]":                  element("a", minus),
		"a[a[0]]":                element("a", element("a", number(0))),
		"-1":                     operation(api.ExprNegate, number(1)),
		"--a":                    operation(api.ExprNegate, minus),
		"!-a":                    operation(api.ExprNot, minus),
		"-a.b":                   operation(api.ExprNegate, field("a", "b")),
		"!a[b]":                  operation(api.ExprNot, element("a", b)),
		"-(a + b)":               operation(api.ExprNegate, sum),
		"!(a < b)":               operation(api.ExprNot, less),
		"!-(a + b)":              operation(api.ExprNot, operation(api.ExprNegate, sum)),
		"a - -a":                 operation(api.ExprSub, a, minus),
		"-a - a":                 operation(api.ExprSub, minus, a),
		"a.b * a[1]":             operation(api.ExprMul, field("a", "b"), element("a", number(1))),
		"-(a + b) * -(a < b)":    operation(api.ExprMul, operation(api.ExprNegate, sum), operation(api.ExprNegate, less)),
		"(a + b) * (a + b) + c":  operation(api.ExprAdd, operation(api.ExprMul, sum, sum), c),
		"a + b - (a + b)":        operation(api.ExprSub, sum, sum),
		"a + b < (a < b)":        operation(api.ExprLess, sum, less),
		"(a < b) != a + b":       operation(api.ExprNotEqual, less, sum),
		"a % (b % (c % a)) % b":  operation(api.ExprMod, operation(api.ExprMod, a, operation(api.ExprMod, b, operation(api.ExprMod, c, a))), b),
		"a | (b | c) & (a ^ b)":  operation(api.ExprAnd, operation(api.ExprOr, a, operation(api.ExprOr, b, c)), operation(api.ExprXor, a, b)),
		"a[(a < b) < a] + a.b":   operation(api.ExprAdd, element("a", operation(api.ExprLess, less, a)), field("a", "b")),
		"-a[-(a + b)]":           operation(api.ExprNegate, element("a", operation(api.ExprNegate, sum))),
		"(a + b) % c & (a == c)": operation(api.ExprAnd, operation(api.ExprMod, sum, c), operation(api.ExprEqual, a, c)),
	} {
		expectPrintValue(t, want, e)
	}
}

// expectPrintValue checks the text of an expression wherever one may stand, and that it has no parentheses around all of it there.
func expectPrintValue(t *testing.T, want string, e api.Expr) {
	t.Helper()
	x := one(variable("x"))
	expectPrint(t, "P3.4", "\tprint "+want+";\n", api.Stmt{Kind: api.StmtPrint, Args: one(e)})
	expectPrint(t, "P3.4", "\tthrow "+want+";\n", api.Stmt{Kind: api.StmtThrow, Args: one(e)})
	expectPrint(t, "P3.4", "\treturn "+want+";\n", api.Stmt{Kind: api.StmtReturn, Args: one(e)})
	expectPrint(t, "P3.4", "\treturn f("+want+");\n", api.Stmt{Kind: api.StmtReturn, Func: "f", Args: one(e)})
	expectPrint(t, "P3.4", "\tx = "+want+";\n", api.Stmt{Kind: api.StmtAssign, Target: x, Args: one(e)})
	expectPrint(t, "P3.4", "\tx["+want+"] = 1;\n", api.Stmt{Kind: api.StmtAssign, Target: one(element("x", e)), Args: one(number(1))})
	expectPrint(t, "P3.4", "\tx = f("+want+", "+want+");\n", api.Stmt{Kind: api.StmtCall, Target: x, Func: "f", Args: []api.Expr{e, e}})
	expectPrint(t, "P3.4", "\tif "+want+" {\n\t}\n", api.Stmt{Kind: api.StmtIf, Args: one(e)})
	expectPrint(t, "P3.4", "\twhile "+want+" {\n\t}\n", api.Stmt{Kind: api.StmtWhile, Args: one(e)})
}

// Each operator on either side of each other, and beside prefix operators.
func TestPrintOperatorsWithinOperators(t *testing.T) {
	a, b, c := variable("a"), variable("b"), variable("c")
	for x := api.ExprAdd; x <= api.ExprNotEqual; x++ {
		sx := " " + signs()[x-api.ExprAdd] + " "
		expectPrintValue(t, "a"+sx+"b", operation(x, a, b))
		expectPrintValue(t, "-a"+sx+"!b", operation(x, operation(api.ExprNegate, a), operation(api.ExprNot, b)))
		expectPrintValue(t, "-(a"+sx+"b)", operation(api.ExprNegate, operation(x, a, b)))
		expectPrintValue(t, "!(a"+sx+"b)", operation(api.ExprNot, operation(x, a, b)))
		for y := api.ExprAdd; y <= api.ExprNotEqual; y++ {
			sy := " " + signs()[y-api.ExprAdd] + " "
			left, right := "(a"+sx+"b)"+sy+"c", "a"+sx+"(b"+sy+"c)"
			if levelOf(x) >= levelOf(y) && levelOf(x) > 0 {
				left = "a" + sx + "b" + sy + "c"
			}
			if levelOf(x) < levelOf(y) {
				right = "a" + sx + "b" + sy + "c"
			}
			expectPrintValue(t, left, operation(y, operation(x, a, b), c))
			expectPrintValue(t, right, operation(x, a, operation(y, b, c)))
		}
	}
}

// What the checker sets, and lines, are not printed.
func TestPrintOfCheckedPrograms(t *testing.T) {
	s := api.Stmt{Kind: api.StmtCall, Line: 7, Id: 8, Var: 9, Callee: 3, Target: []api.Expr{{Op: api.ExprVariable, Name: "x", Var: 5}}, Func: "f",
		Args: []api.Expr{{Op: api.ExprField, Name: "r", Field: "a", Var: 6, Number: 2}, {Op: api.ExprElement, Name: "t", Var: 4, Args: one(number(1))}}}
	expectPrint(t, "P3.4", "\tx = f(r.a, t[1]);\n", s)
}

// A program of the greatest length is parsed again, too.
func TestLongestProgram(t *testing.T) {
	text := "func f() {\n" + strings.Repeat("\tx = 1;\n", (api.MaxText-30)/8) + "\tx = 11;\n}\n"
	text = strings.Replace(text, "x = 11;", "x = 11"+strings.Repeat("1", api.MaxText-len(text))+";", 1)
	p, line, e := Parse(text)
	if len(text) != api.MaxText || line != 0 || e != api.OK || Print(p) != text {
		t.Errorf("P3.4: %d bytes have the error %d in line %d", len(text), e, line)
	}
	refuse(t, "P3.2", text+" ", 0, api.ErrLimit)
}

// Many tokens in one expression: operators of one level add no levels.
func TestLongExpressions(t *testing.T) {
	for _, sign := range signs()[:8] {
		text := "func f() {\n\tprint 1" + strings.Repeat(sign+"1", (api.MaxTokens-9)/2) + ";\n}\n"
		p, line, e := Parse(text)
		if line != 0 || e != api.OK {
			t.Errorf("P3.2: Parse(%.40q) has the error %d in line %d", text, e, line)
		}
		if got := strings.ReplaceAll(Print(p), " "+sign+" ", sign); got != text {
			t.Errorf("P3.4: Print = %.60q, not %.60q", got, text)
		}
	}
}

// Print has some text for any program, and is not misled by what is missing.
func TestPrintOfOtherPrograms(t *testing.T) {
	for _, op := range []int{math.MinInt, -1, api.ExprNotEqual + 1, math.MaxInt} {
		printAll(api.Expr{Op: op})
		printAll(api.Expr{Op: op, Args: []api.Expr{{}, {}, {Op: op}}})
	}
	for op := range api.ExprNotEqual + 1 {
		for size := range 4 {
			e := api.Expr{Op: op, Number: math.MinInt, Args: make([]api.Expr, size)}
			printAll(e)
			printAll(operation(api.ExprNot, e))
			printAll(operation(api.ExprSub, e, e))
			printAll(element("", e))
		}
	}
	e := variable("x")
	s := api.Stmt{}
	for range 10000 {
		e = operation(api.ExprSub, number(1), e)
	}
	for i := range 1000 {
		s = api.Stmt{Kind: api.StmtIf + i%2, Body: []api.Stmt{s}}
	}
	printAll(e)
	Print(api.Program{Funcs: []api.Func{{Body: []api.Stmt{s}}}})
}

// printAll prints an expression in each kind of statement, and in some that there are not.
func printAll(e api.Expr) {
	for kind := -1; kind <= api.StmtEnd+1; kind++ {
		for _, list := range [][]api.Expr{nil, {e}, {e, e}} {
			s := api.Stmt{Kind: kind, Len: math.MinInt, Target: list, Args: list}
			s.Body, s.Else = []api.Stmt{s}, []api.Stmt{s, s}
			Print(api.Program{Records: []api.Record{{}}, Funcs: []api.Func{{}, {Body: []api.Stmt{s}}}})
		}
	}
}

// The argument of Print is not changed, neither behind the ends of its slices.
func TestPrintKeepsItsArgument(t *testing.T) {
	text := "record R{a,b}func f(a,b){if a<(b<a){f(a,b);}else{x[-a]=b;}try{}catch e{return f(1,2);}}"
	p, _, _ := Parse(text)
	p.Records = slices.Grow(p.Records, 3)
	fields := append(p.Records[0].Fields, "spare")
	p.Records[0].Fields = fields[:2]
	before := key(p)
	first := Print(p)
	if key(p) != before || fields[2] != "spare" || Print(p) != first {
		t.Errorf("P2: Print changes its argument")
	}
}

// Nothing of a program is shared with itself or with another program of the same text.
func TestProgramsAreNew(t *testing.T) {
	p, _, _ := Parse(everything)
	q, _, _ := Parse(everything)
	before := key(q)
	spoil(p)
	if key(q) != before {
		t.Error("P2: two programs share memory")
	}
	r, _, _ := Parse(everything)
	want := key(r)
	for i := range r.Funcs {
		spoilSpare(r.Funcs[i].Body)
	}
	if key(r) != want {
		t.Error("P2: slices of a program share memory")
	}
}

// spoil overwrites all of a program.
func spoil(p api.Program) {
	for i := range p.Records {
		clear(p.Records[i].Fields)
	}
	for _, f := range p.Funcs {
		clear(f.Params)
		spoilStatements(f.Body)
	}
}

func spoilStatements(list []api.Stmt) {
	for i, s := range list {
		spoilExpressions(s.Target)
		spoilExpressions(s.Args)
		spoilStatements(s.Body)
		spoilStatements(s.Else)
		list[i] = api.Stmt{}
	}
}

func spoilExpressions(list []api.Expr) {
	for i, e := range list {
		spoilExpressions(e.Args)
		list[i] = api.Expr{}
	}
}

// spoilSpare overwrites the spare capacity of all slices of statements.
func spoilSpare(list []api.Stmt) {
	clear(list[len(list):cap(list)])
	for _, s := range list {
		clear(s.Args[len(s.Args):cap(s.Args)])
		clear(s.Target[len(s.Target):cap(s.Target)])
		spoilSpare(s.Body)
		spoilSpare(s.Else)
	}
}
