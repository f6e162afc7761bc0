package parser

import (
	"strings"
	"testing"

	"debugger/api"
)

func TestEmptyTexts(t *testing.T) {
	for _, s := range []string{"", " ", "\n\n", "// nothing\n", "//"} {
		expect(t, "P3.1", s, api.Program{})
	}
}

func TestProgram(t *testing.T) {
	r := []api.Record{{Name: "R", Fields: []string{"a"}}, {Name: "S", Fields: []string{"x", "y", "R"}}, {Name: "R", Fields: []string{"b", "b"}}}
	f := []api.Func{
		{Name: "f", Line: 2, Body: []api.Stmt{end(2)}},
		{Name: "f", Line: 4, Params: []string{"a"}, Body: []api.Stmt{end(5)}},
		{Name: "main", Line: 5, Params: []string{"a", "b", "a"}, Body: []api.Stmt{{Kind: api.StmtPrint, Line: 7, Args: one(number(1))}, end(8)}},
	}
	records := "record R { a } record S { x, y, R } record R { b, b }\n"
	funcs := "func f() {}\n\nfunc f(a) {\n} func\nmain(a,\nb, a) { print 1;\n}\n"
	expect(t, "P3.1", records, api.Program{Records: r})
	expect(t, "P3.1", "\n"+funcs, api.Program{Funcs: f})
	expect(t, "P3.1", records+funcs, api.Program{Records: r, Funcs: f})
}

// More records, fields, functions and parameters than the checker allows are no error of the grammar.
func TestLimitsOfTheChecker(t *testing.T) {
	p := api.Program{}
	text := ""
	for range 3 * api.MaxFuncs {
		p.Records = append(p.Records, api.Record{Name: "R", Fields: strings.Fields("a b c d e f g")})
		text += "record R {a,b,c,d,e,f,g}"
	}
	for range 3 * api.MaxFuncs {
		p.Funcs = append(p.Funcs, api.Func{Name: "f", Line: 1, Params: strings.Fields("a b c d e f g"), Body: []api.Stmt{end(1)}})
		text += "func f(a,b,c,d,e,f,g){}"
	}
	expect(t, "P3.1", text, p)
}

func TestStatements(t *testing.T) {
	x, y := variable("x"), variable("y")
	for _, c := range []struct {
		text string
		s    api.Stmt
	}{
		{"var x: int;", api.Stmt{Kind: api.StmtDeclare, Name: "x"}},
		{"var x: R;", api.Stmt{Kind: api.StmtDeclare, Name: "x", Type: "R"}},
		{"var x: x;", api.Stmt{Kind: api.StmtDeclare, Name: "x", Type: "x"}},
		{"var x: int[3];", api.Stmt{Kind: api.StmtDeclare, Name: "x", Len: 3}},
		{"var x: int[1];", api.Stmt{Kind: api.StmtDeclare, Name: "x", Len: 1}},
		{"var x: int[8];", api.Stmt{Kind: api.StmtDeclare, Name: "x", Len: api.MaxLen}},
		{"var x: int[008];", api.Stmt{Kind: api.StmtDeclare, Name: "x", Len: 8}},
		{"x = y;", api.Stmt{Kind: api.StmtAssign, Target: one(x), Args: one(y)}},
		{"x.a = 1;", api.Stmt{Kind: api.StmtAssign, Target: one(field("x", "a")), Args: one(number(1))}},
		{"x[y] = 1;", api.Stmt{Kind: api.StmtAssign, Target: one(element("x", y)), Args: one(number(1))}},
		{"x = f();", api.Stmt{Kind: api.StmtCall, Target: one(x), Func: "f"}},
		{"x = x(y);", api.Stmt{Kind: api.StmtCall, Target: one(x), Func: "x", Args: one(y)}},
		{"x.a = f(x, y, 3);", api.Stmt{Kind: api.StmtCall, Target: one(field("x", "a")), Func: "f", Args: []api.Expr{x, y, number(3)}}},
		{"x[1] = f(1, 2, 3, 4, 5, 6);", api.Stmt{Kind: api.StmtCall, Target: one(element("x", number(1))), Func: "f",
			Args: []api.Expr{number(1), number(2), number(3), number(4), number(5), number(6)}}},
		{"f();", api.Stmt{Kind: api.StmtCall, Func: "f"}},
		{"f(x, y);", api.Stmt{Kind: api.StmtCall, Func: "f", Args: []api.Expr{x, y}}},
		{"return x;", api.Stmt{Kind: api.StmtReturn, Args: one(x)}},
		{"return f();", api.Stmt{Kind: api.StmtReturn, Func: "f"}},
		{"return f(x, 1);", api.Stmt{Kind: api.StmtReturn, Func: "f", Args: []api.Expr{x, number(1)}}},
		{"throw x;", api.Stmt{Kind: api.StmtThrow, Args: one(x)}},
		{"print x;", api.Stmt{Kind: api.StmtPrint, Args: one(x)}},
		{"if x {}", api.Stmt{Kind: api.StmtIf, Args: one(x)}},
		{"if x {} else {}", api.Stmt{Kind: api.StmtIf, Args: one(x)}},
		{"while x {}", api.Stmt{Kind: api.StmtWhile, Args: one(x)}},
		{"try {} catch e {}", api.Stmt{Kind: api.StmtTry, Name: "e"}},
	} {
		c.s.Line = 2
		expectBody(t, "P3.3", c.text, c.s)
		s := c.s
		s.Line = 3
		expectBody(t, "P3.3", c.text+"\n"+c.text, c.s, s)
		for _, kind := range []int{api.StmtIf, api.StmtWhile, api.StmtTry} {
			expectInner(t, kind, c.text, s)
		}
	}
}

// expectInner checks a statement in the third line, alone in each block of a compound statement.
func expectInner(t *testing.T, kind int, text string, inner api.Stmt) {
	t.Helper()
	behind := inner
	behind.Line = 5
	outer := api.Stmt{Kind: kind, Line: 2, Args: one(number(1)), Body: []api.Stmt{inner}}
	switch kind {
	case api.StmtWhile:
		expectBody(t, "P3.3", "while 1 {\n"+text+"\n}", outer)
	case api.StmtIf:
		expectBody(t, "P3.3", "if 1 {\n"+text+"\n}", outer)
		outer.Else = []api.Stmt{behind}
		expectBody(t, "P3.3", "if 1 {\n"+text+"\n} else\n{"+text+"}", outer)
	case api.StmtTry:
		outer.Args, outer.Name, outer.Else = nil, "e", []api.Stmt{behind}
		expectBody(t, "P3.3", "try {\n"+text+"\n} catch e\n{"+text+"}", outer)
	}
}

// A statement has the line of its first token, wherever its other tokens are; its end has that of the closing brace.
func TestLines(t *testing.T) {
	want := api.Program{Funcs: []api.Func{{Name: "f", Line: 1, Body: []api.Stmt{
		{Kind: api.StmtAssign, Line: 6, Target: one(variable("x")), Args: one(number(1))},
		{Kind: api.StmtIf, Line: 10, Args: one(number(2)), Body: []api.Stmt{{Kind: api.StmtPrint, Line: 13, Args: one(number(3))}}},
		{Kind: api.StmtCall, Line: 17, Func: "f"},
		end(21),
	}}}}
	expect(t, "P3.3", spread("func f() { x = 1; if 2 { print 3; } f(); }"), want)
}

func TestExpressions(t *testing.T) {
	a, b := variable("a"), variable("b")
	for text, want := range map[string]api.Expr{
		"0":                  number(0),
		"007":                number(7),
		"999999999999999999": number(999999999999999999),
		"a":                  a,
		"a.b":                field("a", "b"),
		"a.a":                field("a", "a"),
		"a[b]":               element("a", b),
		"a[a[1]]":            element("a", element("a", number(1))),
		"a[a.b + 1]":         element("a", operation(api.ExprAdd, field("a", "b"), number(1))),
		"-a":                 operation(api.ExprNegate, a),
		"!a":                 operation(api.ExprNot, a),
		"-1":                 operation(api.ExprNegate, number(1)),
		"--a":                operation(api.ExprNegate, operation(api.ExprNegate, a)),
		"-!a":                operation(api.ExprNegate, operation(api.ExprNot, a)),
		"!-!a.b":             operation(api.ExprNot, operation(api.ExprNegate, operation(api.ExprNot, field("a", "b")))),
		"(a)":                a,
		"((a))":              a,
		"-(a)":               operation(api.ExprNegate, a),
		"(-(a[(b)]))":        operation(api.ExprNegate, element("a", b)),
		"a - -b":             operation(api.ExprSub, a, operation(api.ExprNegate, b)),
		"a--b":               operation(api.ExprSub, a, operation(api.ExprNegate, b)),
		"a != !b":            operation(api.ExprNotEqual, a, operation(api.ExprNot, b)),
		"a[1] + a.b":         operation(api.ExprAdd, element("a", number(1)), field("a", "b")),
		"(a < b) < a":        operation(api.ExprLess, operation(api.ExprLess, a, b), a),
		"a < (b < a)":        operation(api.ExprLess, a, operation(api.ExprLess, b, a)),
	} {
		expectValue(t, "P3.1", text, want)
	}
}

// Each operator beside each other, without parentheses and with them on either side.
func TestOperatorsBesideOperators(t *testing.T) {
	a, b, c := variable("a"), variable("b"), variable("c")
	for x := api.ExprAdd; x <= api.ExprNotEqual; x++ {
		expectValue(t, "P3.1", "a"+signs()[x-api.ExprAdd]+"b", operation(x, a, b))
		expectValue(t, "P3.1", "-a"+signs()[x-api.ExprAdd]+"!b", operation(x, operation(api.ExprNegate, a), operation(api.ExprNot, b)))
		for y := api.ExprAdd; y <= api.ExprNotEqual; y++ {
			sx, sy := signs()[x-api.ExprAdd], signs()[y-api.ExprAdd]
			first := operation(y, operation(x, a, b), c)
			second := operation(x, a, operation(y, b, c))
			expectValue(t, "P3.1", "(a "+sx+" b) "+sy+" c", first)
			expectValue(t, "P3.1", "a "+sx+" (b "+sy+" c)", second)
			switch plain := "a " + sx + " b " + sy + " c"; {
			case levelOf(x) == 0 && levelOf(y) == 0:
				refuseAt(t, "P3.1", "func f() { print a "+sx+" b @"+sy+" c; }", api.ErrSyntax)
			case levelOf(x) >= levelOf(y):
				expectValue(t, "P3.1", plain, first)
			default:
				expectValue(t, "P3.1", plain, second)
			}
		}
	}
}

// Four operands, so that a level between two others, and an operator behind one of a higher level, are read.
func TestOperatorsOfAllLevels(t *testing.T) {
	a := variable("a")
	n := func(i int) api.Expr { return number(i) }
	for text, want := range map[string]api.Expr{
		"1 - 2 - 3 - 4":     operation(api.ExprSub, operation(api.ExprSub, operation(api.ExprSub, n(1), n(2)), n(3)), n(4)),
		"1 / 2 * 3 % 4":     operation(api.ExprMod, operation(api.ExprMul, operation(api.ExprDiv, n(1), n(2)), n(3)), n(4)),
		"1 & 2 | 3 ^ 4":     operation(api.ExprXor, operation(api.ExprOr, operation(api.ExprAnd, n(1), n(2)), n(3)), n(4)),
		"1 < 2 & 3 + 4 * a": operation(api.ExprLess, n(1), operation(api.ExprAnd, n(2), operation(api.ExprAdd, n(3), operation(api.ExprMul, n(4), a)))),
		"1 * 2 + 3 & 4 < a": operation(api.ExprLess, operation(api.ExprAnd, operation(api.ExprAdd, operation(api.ExprMul, n(1), n(2)), n(3)), n(4)), a),
		"1 + 2 * 3 - 4":     operation(api.ExprSub, operation(api.ExprAdd, n(1), operation(api.ExprMul, n(2), n(3))), n(4)),
		"1 * -2 * 3":        operation(api.ExprMul, operation(api.ExprMul, n(1), operation(api.ExprNegate, n(2))), n(3)),
		"-1 * 2":            operation(api.ExprMul, operation(api.ExprNegate, n(1)), n(2)),
		"-a[1] - 2":         operation(api.ExprSub, operation(api.ExprNegate, element("a", n(1))), n(2)),
		"1 - (2 - (3 - 4))": operation(api.ExprSub, n(1), operation(api.ExprSub, n(2), operation(api.ExprSub, n(3), n(4)))),
		"1 + 2 == 3 + 4":    operation(api.ExprEqual, operation(api.ExprAdd, n(1), n(2)), operation(api.ExprAdd, n(3), n(4))),
	} {
		expectValue(t, "P3.1", text, want)
	}
}

func TestErrorsOfTheLexer(t *testing.T) {
	refuse(t, "P3.2", strings.Repeat(" ", api.MaxText+1), 0, api.ErrLimit)
	refuse(t, "P3.2", "func f() {\n$\n}", 2, api.ErrToken)
	refuse(t, "P3.2", "func f() {}\n\n9z", 3, api.ErrToken)
	refuse(t, "P3.2", "\n\nabcdefghijklm", 3, api.ErrLimit)
	// Wherever they are, they come ahead of the errors of the grammar.
	refuse(t, "P3.2", "}\n}\n$", 3, api.ErrToken)
	refuse(t, "P3.2", "func f() { var a: int[9];\n1234567890123456789", 2, api.ErrLimit)
	refuse(t, "P3.2", strings.Repeat(" }\n", api.MaxTokens/2)+strings.Repeat("}", api.MaxTokens/2), 1, api.ErrSyntax)
	refuse(t, "P3.2", strings.Repeat("}\n", api.MaxTokens/2)+strings.Repeat("}", 1+api.MaxTokens/2), 1+api.MaxTokens/2, api.ErrLimit)
}

// The token ahead of which "@" stands is the first one that the grammar does not allow.
func TestFirstWrongToken(t *testing.T) {
	for _, text := range []string{
		"@}", "@f", "@7", "@;", "@int", "@var x: int;", "record R { a } @;", "func f() {} @}", "func f() {} @record R { a }",
		"record @1 { a }", "record @{ a }", "record @int { a }", "record R @a }", "record R @( a )", "record R { @}", "record R { @1 }", "record R { a } @, S { a }",
		"record R { a, @}", "record R { a @b }", "record R { a @; }", "record R { a, @, b }", "record R { a @)", "record R { @func }",
		"func @() {}", "func @1() {}", "func @print() {}", "func f @{}", "func f(@{}", "func f(@1) {}", "func f(@,) {}", "func f(a @b) {}", "func f(a, @) {}", "func f(a,b @;) {}",
		"func f() @;", "func f() @print 1;", "func f(a @: int) {}", "func f() @func",
		"func f() { @int; }", "func f() { @1; }", "func f() { @; }", "func f() { @{} }", "func f() { @(a) = 1; }", "func f() { @-a; }", "func f() { @else {} }", "func f() { @catch e {} }", "func f() { @func g() {} }", "func f() { @record R { a } }", "func f() { @) }",
		"func f() { var @: int; }", "func f() { var @1: int; }", "func f() { var @if: int; }", "func f() { var x @int; }", "func f() { var x @= 1; }", "func f() { var x @, y: int; }", "func f() { var x @; }",
		"func f() { var x: @1; }", "func f() { var x: @if; }", "func f() { var x: @[3]; }", "func f() { var x: @; }", "func f() { var x: R @[3]; }", "func f() { var x: int @= 3; }", "func f() { var x: int @(3); }", "func f() { var x: int @int; }",
		"func f() { var x: int[@]; }", "func f() { var x: int[@a]; }", "func f() { var x: int[@-1]; }", "func f() { var x: int[@(1)]; }", "func f() { var x: int[1 @+ 2]; }", "func f() { var x: int[3 @; }", "func f() { var x: int[3] @= 1; }", "func f() { var x: int[3] @}", "func f() { var x: int[3] @[3]; }",
	} {
		refuseAt(t, "P3.2", text, api.ErrSyntax)
	}
}

func TestFirstWrongTokenOfAStatement(t *testing.T) {
	for _, text := range []string{
		"x @;", "x @== 1;", "x @1;", "x @y = 1;", "x @: int;", "x @{}", "x @}", "x @) = 1;", "x @], y;", "x @, y = 1;", "x @+ 1;", "x @!= 1;",
		"x.@1 = 1;", "x.@int = 1;", "x.@(a) = 1;", "x.@;", "x.a @.b = 1;", "x.a @[1] = 1;", "x.a @(1);", "x.a @;", "x[1] @[2] = 1;", "x[1] @.a = 1;", "x[1] @(2);", "x[1] @;",
		"x[@] = 1;", "x[1 @, 2] = 1;", "x[1 @) = 1;", "x[1 @= 1;", "x[1 @;", "x[@if] = 1;", "x[f @(1)] = 1;", "x[@;",
		"x = @;", "x = @= 1;", "x = @if;", "x = 1 @}", "x = 1 @, 2;", "x = 1 @= 2;", "x = y @= 2;", "x = y @z;", "x = y @{}", "x = @{};", "x = @);", "x = @int;",
		"x = f() @+ 1;", "x = f() @(1);", "x = f() @.a;", "x = f() @[1];", "x = f() @, g();", "x = f() @}", "x = f(@;", "x = f(1 @;", "x = f(@, 1);", "x = f(1, @);", "x = f(1 @2);", "x = f(@int);", "x = f(g @(1));", "x = f(1 @];",
		"x = y.a @(1);", "x = y[1] @(1);", "x = (f @(1));", "x = -f @(1);", "x = !f @();", "x = 1 + f @(1);", "x = f[g @(1)];", "x = (y @;", "x = (@);", "x = (1 @;", "x = (1 @, 2);", "x = 1 @);", "x = 1 @];", "x = y[1 @;", "x = y[@];", "x = y.@;", "x = y.a @.b;", "x = y.a @[1];", "x = y[1] @[2];", "x = y[1] @.a;",
		"x = 1 @2;", "x = 1 @y;", "x = 1 @(2);", "x = 1 @!2;", "x = 1 @.a;", "x = 1 @[2];", "x = (y) @.a;", "x = (y) @[1];", "x = (y) @(1);", "x = -@;", "x = - @* 1;", "x = 1 + @;", "x = 1 + @+ 2;", "x = 1 * @/ 2;", "x = @* 1;", "x = 1 - @;", "x = @& 1;", "x = 1 < @;", "x = 1 < @< 2;", "x = 1 < 2 @< 3;", "x = 1 == 2 @!= 3;", "x = 1 & 2 < 3 & 4 @<= 5;", "x = 1 @! 2;",
		"f(@;", "f(1 @;", "f() @= 1;", "f() @.a = 1;", "f() @[1] = 2;", "f() @+ 1;", "f() @}", "f(1, @);", "f(@,);", "f(1) @f(1);", "f(g @());", "f(x @= 1);",
		"if @{}", "if (@) {}", "if 1 @;", "if 1 @print 1;", "if 1 @else {}", "if f @(1) {}", "if (1 @{}", "if 1 {} else @;", "if 1 {} else @if 2 {}", "if 1 {} else @print 1;", "if 1 {} else {} @else {}", "if 1 {} @catch e {}", "if 1 {} @;", "if 1 {} @, {}", "if @= 1 {}",
		"while @{}", "while 1 @;", "while 1 @print 1;", "while f @(1) {}", "while 1 {} @else {}", "while 1 {} @;", "while 1 {} @catch e {}", "while x @= 1 {}",
		"return @;", "return @}", "return 1 @}", "return 1 @2;", "return f(1) @+ 1;", "return f(1) @}", "return (f @(1));", "return -f @(1);", "return 1 + f @(1);", "return f(@;", "return f(1, @);", "return x @= 1;", "return f(1) @.a;", "return x.a @(1);", "return @return 1;", "return f @g();",
		"throw @;", "throw f @(1);", "throw 1 @}", "throw 1 @, 2;", "throw @throw 1;", "print @;", "print f @(1);", "print 1 @}", "print 1 @, 2;", "print @print 1;", "print x @= 1;",
		"try @print 1;", "try @;", "try @1 {} catch e {}", "try {} @;", "try {} @}", "try {} @else {}", "try {} @print 1;", "try {} catch @{}", "try {} catch @1 {}", "try {} catch @(e) {}", "try {} catch @int {}", "try {} catch e @print 1;", "try {} catch e @;", "try {} catch e {} @catch e {}", "try {} catch e {} @else {}",
		"@{}", "@int x;", "@1 = x;", "@;", "@)", "@]", "@.", "@= 1;", "@catch", "@else",
	} {
		refuseAt(t, "P3.2", "func f() { "+text+" }", api.ErrSyntax)
		refuseAt(t, "P3.2", "func f() { while 1 { print 1; try { x = 1; "+text+" } catch e {} } }", api.ErrSyntax)
	}
}

func TestLengths(t *testing.T) {
	for _, n := range []string{"0", "00", "9", "10", "999999999999999999"} {
		refuseAt(t, "P3.2", "func f() { var x: int[@"+n+"]; }", api.ErrLimit)
		refuseAt(t, "P3.2", "func f() { if 1 { var x: int[@"+n+" }", api.ErrLimit)
	}
	refuseAt(t, "P3.2", "func f() { var x: int[1 @9]; var x: int[9]; }", api.ErrSyntax)
	refuseAt(t, "P3.2", "func f() { var x: int[@9; }", api.ErrLimit)
	refuseAt(t, "P3.2", "func f() { var x: int[@0] }", api.ErrLimit)
	refuseAt(t, "P3.2", "func f() { var x: int[@9]; var x: int[0]; }", api.ErrLimit)
	refuseAt(t, "P3.2", "func f() { var x: int[8]; var x: int[@0]; }", api.ErrLimit)
}

// Each text that is cut off behind one of its tokens is refused at its end.
func TestCutTexts(t *testing.T) {
	tokens := split(everything)
	depth := 0
	for i, token := range tokens {
		text := strings.Join(tokens[:i], "\n") + "\n"
		if depth == 0 && (token == "record" || token == "func") {
			if _, line, e := Parse(text); e != api.OK || line != 0 {
				t.Errorf("P3.2: Parse(%.300q) has the error %d in line %d", text, e, line)
			}
		} else {
			refuse(t, "P3.2", text, i+1, api.ErrSyntax)
			refuse(t, "P3.2", strings.Join(tokens[:i], " "), 1, api.ErrSyntax)
		}
		switch token {
		case "{":
			depth++
		case "}":
			depth--
		}
	}
}
