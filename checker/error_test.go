package checker

import (
	"strings"
	"testing"

	"debugger/api"
)

func TestErrorsOfRecords(t *testing.T) {
	for text, want := range map[string]api.Errno{
		"record A { a } record A { b }":                                              api.ErrDuplicate,
		"record A { a } record B { a } record A { c }":                               api.ErrDuplicate,
		"record A { a, a }":                                                          api.ErrDuplicate,
		"record A { a, b, c, b }":                                                    api.ErrDuplicate,
		"record A { a } record B { a, b, a }":                                        api.ErrDuplicate,
		"record A { a, b, c, d, e }":                                                 api.ErrLimit,
		"record A { a } record B { a, b, c, d, e, f }":                               api.ErrLimit,
		"record A { a } record B { b } record C { c } record D { d } record E { e }": api.ErrLimit,
		// Of a record, ErrLimit comes first.
		"record A { a } record A { a, b, c, d, e }":                                     api.ErrLimit,
		"record A { a, a, b, c, d }":                                                    api.ErrLimit,
		"record A { a } record B { b } record C { c } record D { d } record A { a, a }": api.ErrLimit,
		// Of several records, the first one.
		"record A { a, a } record B { a, b, c, d, e }":                               api.ErrDuplicate,
		"record A { a, b, c, d, e } record B { b, b }":                               api.ErrLimit,
		"record A { a } record B { b } record C { c } record A { d } record E { e }": api.ErrDuplicate,
	} {
		refuseAt(t, "P4.2", text, want)
		// Records come ahead of functions.
		refuseAt(t, "P4.2", text+" func f(a) { x = 1; } func f() { }", want)
	}
	accept(t, "P4.2", "record A { a, b, c, d } record B { a, b, c, d } record C { A, B, C, D } record D { D }")
	accept(t, "P4.2", "record A { a, A, aa, aA } record a { a }")
}

func TestErrorsOfFunctionNames(t *testing.T) {
	full := repeated("func f#() { } ", api.MaxFuncs)
	for text, want := range map[string]api.Errno{
		"func f() { } @func f() { }":                                       api.ErrDuplicate,
		"func f() { } func g() { } @func f(a) { } func g() { }":            api.ErrDuplicate,
		full + "@func g() { }":                                             api.ErrLimit,
		full + "@func f0() { } func g() { } ":                              api.ErrLimit,
		"func f0() { } @" + full:                                           api.ErrDuplicate,
		"func f1() { } " + strings.Replace(full, "func f1", "@func f1", 1): api.ErrDuplicate,
		// All names come ahead of all else of the functions.
		"func f(a, a) { var b: int; var b: int; c = 1; } @func f(a, b, c, d, e) { }":                       api.ErrDuplicate,
		"func f(a, b, c, d, e) { } " + repeated("func f#() { x = 1; }", api.MaxFuncs-1) + " @func g() { }": api.ErrLimit,
	} {
		refuseAt(t, "P4.2", text, want)
	}
	accept(t, "P4.2", full)
	accept(t, "P4.2", "func f() { } func F() { } func ff() { } func f_() { }")
}

func TestErrorsOfParameters(t *testing.T) {
	for text, want := range map[string]api.Errno{
		"@func f(a, b, c, d, e) { }":                           api.ErrLimit,
		"func f(a, b, c, d) { } @func g(a, b, c, d, e, g) { }": api.ErrLimit,
		"@func f(a, a) { }":                                    api.ErrDuplicate,
		"func f(a) { } @func g(b, c, a, c) { }":                api.ErrDuplicate,
		"@func f(a, a, b, c, d) { }":                           api.ErrLimit,
		// Function by function, parameters ahead of statements.
		"@func f(a, a) { x = 1; } func g(a, b, c, d, e) { }": api.ErrDuplicate,
		"func f(a) { @x = 1; } func g(a, b, c, d, e) { }":    api.ErrName,
		"func f(a) { @a.b = 1; } func g(a, a) { }":           api.ErrType,
		"@func f(a, b, c, d, e) { x = 1; } func g(a, a) { }": api.ErrLimit,
	} {
		refuseAt(t, "P4.2", text, want)
	}
	accept(t, "P4.2", "func f() { } func g(f) { } func h(a, b, c, d) { } func i(d, c, b, a) { }")
}

func TestErrorsOfDeclarations(t *testing.T) {
	for text, want := range map[string]api.Errno{
		"@var x: T;":             api.ErrName,
		"@var x: f0;":            api.ErrName,
		"@var x: i;":             api.ErrName,
		"@var x: x;":             api.ErrName,
		"@var x: a;":             api.ErrName,
		"@var x: r;":             api.ErrName,
		"while 1 { @var x: T; }": api.ErrName,
		"@var i: T;":             api.ErrName,
		"@var i: R;":             api.ErrDuplicate,
		"@var i: int[1];":        api.ErrDuplicate,
		"@var x: T; var x: int;": api.ErrName,
		"var x: R; @var x: S;":   api.ErrDuplicate,
	} {
		refuseAt(t, "P4.2", withNames(text), want)
	}
	accept(t, "P4.2", withNames("var x: R; var y: S; var z: R; var a: int[8]; var b: int;"))
}

// wrong has expressions with an error, by their text.
func wrong() map[string]api.Errno {
	return map[string]api.Errno{
		"x": api.ErrName, "f0": api.ErrName, "R": api.ErrName, "I": api.ErrName, "a": api.ErrName, "c": api.ErrName,
		"r": api.ErrType, "s": api.ErrType, "t": api.ErrType,
		"x.a": api.ErrName, "R.a": api.ErrName, "i.a": api.ErrType, "t.a": api.ErrType, "i.x": api.ErrType, "t.i": api.ErrType,
		"r.c": api.ErrName, "r.A": api.ErrName, "s.a": api.ErrName, "s.s": api.ErrName, "r.r": api.ErrName,
		"x[0]": api.ErrName, "f0[0]": api.ErrName, "i[0]": api.ErrType, "r[0]": api.ErrType,
		"t[x]": api.ErrName, "t[r]": api.ErrType, "t[t]": api.ErrType, "t[t[x]]": api.ErrName, "t[t[s]]": api.ErrType, "t[r.c]": api.ErrName, "t[i.a]": api.ErrType, "t[i + r]": api.ErrType,
		// The variable comes ahead of the index.
		"x[r]": api.ErrName, "i[x]": api.ErrType, "r[x]": api.ErrType, "t[x[r]]": api.ErrName, "t[i[x]]": api.ErrType,
		"-x": api.ErrName, "-r": api.ErrType, "!x": api.ErrName, "!t": api.ErrType, "-!-x": api.ErrName, "!-r": api.ErrType, "-i.a": api.ErrType, "-(i + x)": api.ErrName,
		// Arguments from left to right, however they are nested.
		"(i + x) * r": api.ErrName, "(i + r) * x": api.ErrType, "i * (j + (x + r))": api.ErrName, "i * (j + (r + x))": api.ErrType, "t[r] + x": api.ErrType, "t[x] + r": api.ErrName, "t[x + r]": api.ErrName, "t[r + x]": api.ErrType, "-r + x": api.ErrType, "!x + r": api.ErrName,
	}
}

// places are statements with an expression at "~".
func places() []string {
	return []string{
		"@print ~;", "@throw ~;", "@return ~;", "@i = ~;", "@r.a = ~;", "@t[0] = ~;", "@t[i] = 1 + (~);", "@t[~] = 1;", "@t[1 + (~)] = i;", "@i = t[~];", "@if ~ { }", "@if i + (~) { } else { print 1; }", "@while ~ { print 2; }",
		"@f1(~);", "@f2(i, ~);", "@f2(~, i);", "@f4(1, i, ~, 2);", "@i = f1(~);", "@j = f3(1, ~, r.a);", "@return f1(~);", "@return f2(t[1], -(~));", "@print (~) - i;", "@print i - (~);", "@print -(~);", "@print !(~);",
		"if 1 { @print ~; }", "if 1 { } else { @i = ~; }", "while 1 { @return ~; }", "try { @throw ~; } catch e { }", "try { } catch e { @f1(~); }", "while 1 { if i { } else { try { print 1; @t[~] = e0; } catch e { } } }",
	}
}

func TestErrorsOfExpressions(t *testing.T) {
	for _, place := range places() {
		for x, want := range wrong() {
			refuseAt(t, "P4.2", withNames("var e0: int; "+strings.ReplaceAll(place, "~", x)), want)
			// A later error, and the errors of later statements, do not count.
			refuseAt(t, "P4.2", withNames("var e0: int; "+strings.ReplaceAll(place, "~", "("+x+") + (x + r)")+" print r; print x;"), want)
		}
	}
}

// Each operator goes through its arguments from left to right.
func TestErrorsOfOperators(t *testing.T) {
	for _, sign := range strings.Fields("+ - * / % & | ^ < <= == !=") {
		for text, want := range map[string]api.Errno{
			"x ~ i": api.ErrName, "i ~ x": api.ErrName, "r ~ i": api.ErrType, "i ~ r": api.ErrType, "x ~ r": api.ErrName, "r ~ x": api.ErrType, "t[x] ~ r": api.ErrName, "i ~ (x ~ r)": api.ErrName, "(i ~ r) ~ x": api.ErrType,
		} {
			refuseAt(t, "P4.2", withNames("@print "+strings.ReplaceAll(text, "~", sign)+";"), want)
		}
		accept(t, "P4.2", withNames("print i "+sign+" (r.a "+sign+" t[j]);"))
	}
}

func TestErrorsOfAssignments(t *testing.T) {
	for text, want := range map[string]api.Errno{
		"@x = 1;": api.ErrName, "@f0 = 1;": api.ErrName, "@R = 1;": api.ErrName, "@r = 1;": api.ErrType, "@t = 1;": api.ErrType, "@r = s;": api.ErrType,
		"@x.a = 1;": api.ErrName, "@i.a = 1;": api.ErrType, "@t.a = 1;": api.ErrType, "@r.c = 1;": api.ErrName, "@s.a = 1;": api.ErrName,
		"@x[0] = 1;": api.ErrName, "@i[0] = 1;": api.ErrType, "@r[0] = 1;": api.ErrType, "@t[x] = 1;": api.ErrName, "@t[r] = 1;": api.ErrType,
		// The target comes ahead of the value, its variable ahead of its index.
		"@x = r;": api.ErrName, "@r = x;": api.ErrType, "@t = x;": api.ErrType, "@r.c = t;": api.ErrName, "@i.a = x;": api.ErrType, "@t[x] = r;": api.ErrName, "@t[r] = x;": api.ErrType, "@x[r] = t;": api.ErrName, "@i[x] = y;": api.ErrType,
		"@i = x;": api.ErrName, "@i = r;": api.ErrType, "@r.a = x;": api.ErrName, "@r.b = t;": api.ErrType, "@t[0] = x;": api.ErrName, "@t[0] = s;": api.ErrType, "@i = i.a;": api.ErrType,
	} {
		refuseAt(t, "P4.2", withNames(text), want)
	}
	accept(t, "P4.2", withNames("i = 1; i = i; j = r.a; r.b = i; s.c = t[0]; t[t[0]] = r.b; t[9] = -1; t[-1] = 1;"))
}

// A call of each function with each number of arguments.
func TestArgumentCounts(t *testing.T) {
	for params, name := range []string{"f0", "f1", "f2", "f3", "f4"} {
		for args := range 7 {
			call := name + "(" + strings.Join(strings.Fields(repeated("i ", args)), ", ") + ");"
			for _, text := range []string{"@" + call, "@j = " + call, "@return " + call, "if 1 { @" + call + " }", "try { } catch e { @return " + call + " }"} {
				if args == params {
					accept(t, "P4.2", withNames(strings.Replace(text, "@", "", 1)))
				} else {
					refuseAt(t, "P4.2", withNames(text), api.ErrCount)
				}
			}
		}
	}
	accept(t, "P4.2", withNames("main(1, 2); return main(i, j);"))
	refuseAt(t, "P4.2", withNames("@main(1);"), api.ErrCount)
}

func TestErrorsOfCalls(t *testing.T) {
	for text, want := range map[string]api.Errno{
		"@f();": api.ErrName, "@i();": api.ErrName, "@R();": api.ErrName, "@a();": api.ErrName, "@F0();": api.ErrName, "@f5(1, 2, 3, 4, 5);": api.ErrName, "@i = f();": api.ErrName,
		"@x = f0();": api.ErrName, "@f0 = f0();": api.ErrName, "@r = f0();": api.ErrType, "@t = f0();": api.ErrType,
		"@r.a = f0();": api.ErrType, "@t[0] = f0();": api.ErrType, "@s.c = f1(i);": api.ErrType,
		"@f1(x);": api.ErrName, "@f1(r);": api.ErrType, "@f1(t);": api.ErrType, "@f2(x, r);": api.ErrName, "@f2(r, x);": api.ErrType, "@f2(i, x);": api.ErrName, "@f4(1, 2, 3, t);": api.ErrType, "@i = f3(1, r, x);": api.ErrType,
		// A field or an element as a target comes first.
		"@x.a = f0();": api.ErrType, "@x[0] = f0();": api.ErrType, "@r.x = f0();": api.ErrType, "@t[x] = f0();": api.ErrType, "@r.a = f();": api.ErrType, "@t[0] = f(x);": api.ErrType, "@r.a = f1();": api.ErrType, "@r.a = f1(x);": api.ErrType, "@x.a = f(x);": api.ErrType,
		// Then the target, the function, the number of arguments, and the arguments.
		"@r = f();": api.ErrType, "@x = f1();": api.ErrName, "@x = f1(r);": api.ErrName, "@r = f1();": api.ErrType, "@r = f1(x);": api.ErrType, "@t = f(x);": api.ErrType,
		"@f(r);": api.ErrName, "@i = f(r);": api.ErrName, "@f(r, x);": api.ErrName, "@f0(r);": api.ErrCount, "@f2(x);": api.ErrCount, "@i = f1(x, r);": api.ErrCount,
	} {
		refuseAt(t, "P4.2", withNames(text), want)
	}
	for text, want := range map[string]api.Errno{
		"@return f();": api.ErrName, "@return i();": api.ErrName, "@return f(r);": api.ErrName, "@return f0(r);": api.ErrCount, "@return f2(x);": api.ErrCount, "@return f2(x, r);": api.ErrName, "@return f2(r, x);": api.ErrType, "@return f1(t);": api.ErrType,
	} {
		refuseAt(t, "P4.2", withNames(text), want)
		refuseAt(t, "P4.2", withNames("if 1 { "+text+" }"), want)
	}
}

// The blocks of a statement come behind its expression, Body ahead of Else; each error has the line of its own statement.
func TestErrorsOfBlocks(t *testing.T) {
	for text, want := range map[string]api.Errno{
		"@if x { i = r; }": api.ErrName, "@if r { i = x; }": api.ErrType, "if i { @i = r; } else { i = x; }": api.ErrType, "if i { @i = x; } else { i = r; }": api.ErrName, "if i { } else { @i = r; } i = x;": api.ErrType, "if i { i = 1; } @i = x;": api.ErrName,
		"@while x { i = r; }": api.ErrName, "@while r { i = x; }": api.ErrType, "while i { @i = x; } i = r;": api.ErrName, "while i { i = j; @i = r; i = x; }": api.ErrType,
		"try { @i = x; } catch e { i = r; }": api.ErrName, "try { @i = r; } catch i { i = x; }": api.ErrType, "try { i = j; } catch e { @i = x; } i = r;": api.ErrName, "@try { i = j; } catch i { i = x; }": api.ErrDuplicate, "@try { if i { while j { print 1; } } } catch r { i = x; }": api.ErrDuplicate,
		"try { if i { @print x; } } catch r { }": api.ErrName, "if i { @try { } catch i { print x; } }": api.ErrDuplicate, "while i { if i { @print r; } print x; }": api.ErrType, "print i; @print r; print x;": api.ErrType,
	} {
		refuseAt(t, "P4.2", withNames(text), want)
	}
}

// Of several functions the first one with an error counts.
func TestErrorsOfSeveralFunctions(t *testing.T) {
	refuseAt(t, "P4.2", "func f() { } func g() { @print x; } func h(r) { r.a = 1; }", api.ErrName)
	refuseAt(t, "P4.2", "func f(a) { @a.b = 1; } func g() { print x; }", api.ErrType)
	refuseAt(t, "P4.2", "func f(a) { } func g() { @f(); f(1); } func h() { x = 1; }", api.ErrCount)
}

// Lines are those of the program, whatever they are.
func TestOtherLines(t *testing.T) {
	p := parsed(t, "func f(a) { print a; try { } catch e { print x; } }")
	p.Funcs[0].Line = -5
	p.Funcs[0].Body[0].Line = 1 << 40
	p.Funcs[0].Body[1].Else[0].Line = -7
	if _, line, e := Check(p); line != -7 || e != api.ErrName {
		t.Errorf("P4.2: Check has the error %d in line %d", e, line)
	}
	p.Funcs[0].Body[1].Else[0].Args[0].Name = "e"
	s, line, e := Check(p)
	if line != 0 || e != api.OK || s.Program.Funcs[0].Line != -5 || s.Stmts[0].Line != 1<<40 || s.Stmts[2].Line != -7 {
		t.Errorf("P4.3: Check = %+v, %d, %d", s, line, e)
	}
	p.Funcs[0].Params = []string{"a", "a"}
	if _, line, e := Check(p); line != -5 || e != api.ErrDuplicate {
		t.Errorf("P4.2: Check has the error %d in line %d", e, line)
	}
}
