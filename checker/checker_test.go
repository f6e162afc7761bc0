package checker

import (
	"fmt"
	"math"
	"slices"
	"strings"
	"testing"

	"debugger/api"
)

const sample = `record P { x, y }
record Q { z }
func f(a, b) {
	var p: P;
	var l: int[3];
	p.y = a + b * 2;
	if a < b {
		var i: int;
		l[i] = -p.x;
	} else {
		throw 3;
	}
	while !a {
		a = g(l[b]);
	}
	try {
		var q: Q;
		f(1, q.z);
	} catch e {
		var n: int;
		return e;
	}
	return f(b, a);
}
func g(c) {
	print c;
}
`

func literal(n int) api.Expr { return api.Expr{Op: api.ExprLiteral, Number: n} }

func variable(name string, v int) api.Expr {
	return api.Expr{Op: api.ExprVariable, Name: name, Var: v}
}

func field(name string, v int, field string, n int) api.Expr {
	return api.Expr{Op: api.ExprField, Name: name, Var: v, Field: field, Number: n}
}

func element(name string, v int, index api.Expr) api.Expr {
	return api.Expr{Op: api.ExprElement, Name: name, Var: v, Args: list(index)}
}

func operation(op int, args ...api.Expr) api.Expr { return api.Expr{Op: op, Args: args} }

func list(l ...api.Expr) []api.Expr { return l }

// sampleProgram returns the program of the sample, with its numbers.
func sampleProgram() api.Program {
	a, b, e := variable("a", 0), variable("b", 1), variable("e", 6)
	return api.Program{
		Records: []api.Record{{Name: "P", Fields: []string{"x", "y"}}, {Name: "Q", Fields: []string{"z"}}},
		Funcs: []api.Func{{Name: "f", Line: 3, Params: []string{"a", "b"}, Body: []api.Stmt{
			{Kind: api.StmtDeclare, Line: 4, Id: 0, Name: "p", Type: "P", Var: 2},
			{Kind: api.StmtDeclare, Line: 5, Id: 1, Name: "l", Len: 3, Var: 3},
			{Kind: api.StmtAssign, Line: 6, Id: 2, Target: list(field("p", 2, "y", 1)), Args: list(operation(api.ExprAdd, a, operation(api.ExprMul, b, literal(2))))},
			{Kind: api.StmtIf, Line: 7, Id: 3, Args: list(operation(api.ExprLess, a, b)), Body: []api.Stmt{
				{Kind: api.StmtDeclare, Line: 8, Id: 4, Name: "i", Var: 4},
				{Kind: api.StmtAssign, Line: 9, Id: 5, Target: list(element("l", 3, variable("i", 4))), Args: list(operation(api.ExprNegate, field("p", 2, "x", 0)))},
			}, Else: []api.Stmt{
				{Kind: api.StmtThrow, Line: 11, Id: 6, Args: list(literal(3))},
			}},
			{Kind: api.StmtWhile, Line: 13, Id: 7, Args: list(operation(api.ExprNot, a)), Body: []api.Stmt{
				{Kind: api.StmtCall, Line: 14, Id: 8, Target: list(a), Func: "g", Callee: 1, Args: list(element("l", 3, b))},
			}},
			{Kind: api.StmtTry, Line: 16, Id: 9, Name: "e", Var: 6, Body: []api.Stmt{
				{Kind: api.StmtDeclare, Line: 17, Id: 10, Name: "q", Type: "Q", Var: 5},
				{Kind: api.StmtCall, Line: 18, Id: 11, Func: "f", Args: list(literal(1), field("q", 5, "z", 0))},
			}, Else: []api.Stmt{
				{Kind: api.StmtDeclare, Line: 20, Id: 12, Name: "n", Var: 7},
				{Kind: api.StmtReturn, Line: 21, Id: 13, Args: list(e)},
			}},
			{Kind: api.StmtReturn, Line: 23, Id: 14, Func: "f", Args: list(b, a)},
			{Kind: api.StmtEnd, Line: 24, Id: 15},
		}}, {Name: "g", Line: 25, Params: []string{"c"}, Body: []api.Stmt{
			{Kind: api.StmtPrint, Line: 26, Id: 16, Args: list(variable("c", 0))},
			{Kind: api.StmtEnd, Line: 27, Id: 17},
		}}},
	}
}

// sampleVars returns the variables of the sample.
func sampleVars() [][]api.VarInfo {
	return [][]api.VarInfo{{
		{Name: "a", Kind: api.VarScalar, Record: -1, Words: 1, Param: true, From: 0, To: 15},
		{Name: "b", Kind: api.VarScalar, Record: -1, Words: 1, Param: true, From: 0, To: 15},
		{Name: "p", Kind: api.VarRecord, Record: 0, Words: 2, From: 1, To: 15},
		{Name: "l", Kind: api.VarArray, Record: -1, Words: 3, From: 2, To: 15},
		{Name: "i", Kind: api.VarScalar, Record: -1, Words: 1, From: 5, To: 5},
		{Name: "q", Kind: api.VarRecord, Record: 1, Words: 1, From: 11, To: 11},
		{Name: "e", Kind: api.VarScalar, Record: -1, Words: 1, From: 12, To: 13},
		{Name: "n", Kind: api.VarScalar, Record: -1, Words: 1, From: 13, To: 13},
	}, {
		{Name: "c", Kind: api.VarScalar, Record: -1, Words: 1, Param: true, From: 16, To: 17},
	}}
}

// sampleStmts returns the statements of the sample.
func sampleStmts() []api.StmtInfo {
	return []api.StmtInfo{
		{Func: 0, Kind: api.StmtDeclare, Line: 4}, {Func: 0, Kind: api.StmtDeclare, Line: 5}, {Func: 0, Kind: api.StmtAssign, Line: 6},
		{Func: 0, Kind: api.StmtIf, Line: 7}, {Func: 0, Kind: api.StmtDeclare, Line: 8}, {Func: 0, Kind: api.StmtAssign, Line: 9}, {Func: 0, Kind: api.StmtThrow, Line: 11},
		{Func: 0, Kind: api.StmtWhile, Line: 13}, {Func: 0, Kind: api.StmtCall, Line: 14},
		{Func: 0, Kind: api.StmtTry, Line: 16}, {Func: 0, Kind: api.StmtDeclare, Line: 17}, {Func: 0, Kind: api.StmtCall, Line: 18}, {Func: 0, Kind: api.StmtDeclare, Line: 20}, {Func: 0, Kind: api.StmtReturn, Line: 21},
		{Func: 0, Kind: api.StmtReturn, Line: 23}, {Func: 0, Kind: api.StmtEnd, Line: 24},
		{Func: 1, Kind: api.StmtPrint, Line: 26}, {Func: 1, Kind: api.StmtEnd, Line: 27},
	}
}

func TestSource(t *testing.T) {
	s := accept(t, "P4.2", sample)
	if got, want := key(s.Program), key(sampleProgram()); got != want {
		t.Errorf("P4.3: Program = %s, not %s", got, want)
	}
	if got, want := key(s.Vars), key(sampleVars()); got != want {
		t.Errorf("P4.3: Vars = %s, not %s", got, want)
	}
	if got, want := key(s.Stmts), key(sampleStmts()); got != want {
		t.Errorf("P4.3: Stmts = %s, not %s", got, want)
	}
}

func TestSmallPrograms(t *testing.T) {
	if s := accept(t, "P4.2", ""); key(s) != key(api.Source{}) {
		t.Errorf("P4.3: the source of an empty program is %+v", s)
	}
	s := accept(t, "P4.2", "record R { a }")
	if len(s.Program.Records) != 1 || len(s.Program.Funcs) != 0 || len(s.Vars) != 0 || len(s.Stmts) != 0 {
		t.Errorf("P4.3: the source of a record is %+v", s)
	}
	s = accept(t, "P4.2", "func f() {}\nfunc g() {}")
	want := []api.StmtInfo{{Func: 0, Kind: api.StmtEnd, Line: 1}, {Func: 1, Kind: api.StmtEnd, Line: 2}}
	if len(s.Vars) != 2 || len(s.Vars[0]) != 0 || len(s.Vars[1]) != 0 || key(s.Stmts) != key(want) {
		t.Errorf("P4.3: the source of two functions is %+v", s)
	}
}

// The example of the chapter.
func TestExample(t *testing.T) {
	s := accept(t, "P4.2", "func f(a) { var t: int; t = a; }")
	want := []api.StmtInfo{{Kind: api.StmtDeclare, Line: 1}, {Kind: api.StmtAssign, Line: 1}, {Kind: api.StmtEnd, Line: 1}}
	if key(s.Stmts) != key(want) || scopes(s, 0) != "a 0-2, t 1-2" {
		t.Errorf("P4.3: the example has %+v", s)
	}
}

// Statements are numbered in the order in which the text has their first tokens, each of which is in a line of its own here.
func TestStatementNumbers(t *testing.T) {
	s := accept(t, "P4.2", strings.Join(split(`
		func f() { if 1 { print 1; while 1 { f(); print 2; } print 3; } else { throw 1; if 1 { } else { throw 2; } } print 4; }
		func g() { }
		func h() { try { return 1; try { } catch e { throw 5; } } catch e { return h(); while 1 { } } if 1 { if 1 { print 1; } else { print 2; } print 3; } }
	`), "\n"))
	kinds := []int{}
	last := 0
	for i, info := range s.Stmts {
		kinds = append(kinds, info.Kind)
		if info.Line <= last {
			t.Errorf("P4.1: statement %d is in line %d, behind one in line %d", i, info.Line, last)
		}
		last = info.Line
	}
	want := []int{
		api.StmtIf, api.StmtPrint, api.StmtWhile, api.StmtCall, api.StmtPrint, api.StmtPrint, api.StmtThrow, api.StmtIf, api.StmtThrow, api.StmtPrint, api.StmtEnd,
		api.StmtEnd,
		api.StmtTry, api.StmtReturn, api.StmtTry, api.StmtThrow, api.StmtReturn, api.StmtWhile, api.StmtIf, api.StmtIf, api.StmtPrint, api.StmtPrint, api.StmtPrint, api.StmtEnd,
	}
	if !slices.Equal(kinds, want) {
		t.Errorf("P4.1: the kinds of the statements are %v, not %v", kinds, want)
	}
	for i, stmt := range statements(s.Program) {
		if stmt.Id != i || stmt.Kind != s.Stmts[i].Kind || stmt.Line != s.Stmts[i].Line {
			t.Errorf("P4.3: statement %d is %+v in the program and %+v in Stmts", i, stmt, s.Stmts[i])
		}
	}
	for i, info := range s.Stmts {
		f := 0
		if i > 10 {
			f = 1
		}
		if i > 11 {
			f = 2
		}
		if info.Func != f {
			t.Errorf("P4.3: statement %d is in the function %d", i, info.Func)
		}
	}
}

func TestVariableNumbers(t *testing.T) {
	for text, want := range map[string]string{
		"func f() { }":     "",
		"func f(b, a) { }": "b a",
		"func f(d, c) { var b: int; var a: int; }":                                                                                             "d c b a",
		"func f() { print 1; var b: int; print 1; if 1 { var a: int; } else { var c: int; } var d: int; }":                                     "b a c d",
		"func f() { while 1 { while 1 { var z: int; } var y: int; } var x: int; }":                                                             "z y x",
		"func f() { try { } catch a { } }":                                                                                                     "a",
		"func f() { try { var b: int; var c: int; } catch a { var d: int; } var e: int; }":                                                     "b c a d e",
		"func f() { try { var a: int; try { var b: int; } catch c { var d: int; } } catch e { var g: int; try { } catch h { } var i: int; } }": "a b c d e g h i",
		"func f(x) { var y: int; if 1 { var a: int; } if 1 { var a: int; } while 1 { var a: int; } }":                                          "x y a a a",
	} {
		s := accept(t, "P4.2", "func other(q) { var p: int; } "+text)
		names := []string{}
		for _, v := range s.Vars[1] {
			names = append(names, v.Name)
		}
		if got := strings.Join(names, " "); got != want {
			t.Errorf("P4.1: the variables of %q are %q, not %q", text, got, want)
		}
	}
}

// The number of a variable is the one that its declaration has, also where others of its name are.
func TestNumbersOfDeclarations(t *testing.T) {
	s := accept(t, "P4.2", "func f(a) { var b: int; if 1 { var x: int; } try { var x: int; } catch x { var y: int; } try { } catch y { } var x: int; }")
	vars := []int{}
	for _, stmt := range statements(s.Program) {
		vars = append(vars, stmt.Var)
	}
	// var b, if, var x, try, var x, var y, try, var x, the end
	if want := []int{1, 0, 2, 4, 3, 5, 6, 7, 0}; !slices.Equal(vars, want) {
		t.Errorf("P4.3: the statements have the variables %v, not %v", vars, want)
	}
}

// Records are numbered in order, and so are their fields.
func TestKinds(t *testing.T) {
	s := accept(t, "P4.2", "record A { x } record D { x, y, z, A } record B { y, x } record C { x, y, z } func f(p) { var c: C; var a: A; var i: int; var b: B; var t: int[1]; var u: int[8]; var d: D; try { } catch e { } }")
	want := []api.VarInfo{
		{Name: "p", Kind: api.VarScalar, Record: -1, Words: 1, Param: true},
		{Name: "c", Kind: api.VarRecord, Record: 3, Words: 3},
		{Name: "a", Kind: api.VarRecord, Record: 0, Words: 1},
		{Name: "i", Kind: api.VarScalar, Record: -1, Words: 1},
		{Name: "b", Kind: api.VarRecord, Record: 2, Words: 2},
		{Name: "t", Kind: api.VarArray, Record: -1, Words: 1},
		{Name: "u", Kind: api.VarArray, Record: -1, Words: 8},
		{Name: "d", Kind: api.VarRecord, Record: 1, Words: 4},
		{Name: "e", Kind: api.VarScalar, Record: -1, Words: 1},
	}
	got := slices.Clone(s.Vars[0])
	for i := range got {
		got[i].From, got[i].To = 0, 0
	}
	if key(got) != key(want) {
		t.Errorf("P4.3: the variables are %+v, not %+v", got, want)
	}
	for i, name := range []string{"A", "D", "B", "C"} {
		if s.Program.Records[i].Name != name {
			t.Errorf("P4.1: record %d is %q, not %q", i, s.Program.Records[i].Name, name)
		}
	}
}

func TestNumbersOfFields(t *testing.T) {
	s := accept(t, "P4.2", "record A { x } record D { w, y, x, z } func f(p) { var a: A; var d: D; d.z = a.x; d.w = d.x; d.y = d.z; a.x = d.w; }")
	numbers := []int{}
	for _, stmt := range statements(s.Program) {
		for _, x := range expressions(stmt) {
			numbers = append(numbers, x.Var, x.Number)
		}
	}
	if want := []int{2, 3, 1, 0, 2, 0, 2, 2, 2, 1, 2, 3, 1, 0, 2, 0}; !slices.Equal(numbers, want) {
		t.Errorf("P4.3: variables and fields are %v, not %v", numbers, want)
	}
}

// A name is that of the variable that is in scope, also if others have had it.
func TestNumbersOfNames(t *testing.T) {
	s := accept(t, "P4.2", records+"func f(a) { if 1 { var x: int; x = a; } else { var x: int[2]; x[0] = 1; } while 1 { var x: R; x.b = a; } try { var x: int; print x; } catch x { print x; } var x: int; x = a; return x; }")
	vars := []int{}
	for _, stmt := range statements(s.Program) {
		for _, x := range expressions(stmt) {
			if x.Op != api.ExprLiteral {
				vars = append(vars, x.Var)
			}
		}
	}
	if want := []int{1, 0, 2, 3, 0, 4, 5, 6, 0, 6}; !slices.Equal(vars, want) {
		t.Errorf("P4.3: the names are the variables %v, not %v", vars, want)
	}
}

// Wherever an expression stands, its names get their numbers.
func TestNumbersInAllPlaces(t *testing.T) {
	for _, place := range places() {
		for _, x := range []string{"j", "s.c", "r.b", "t[i]", "-j", "!r.a", "t[t[j]]", "(i + j) * (r.b - t[s.c])", "t[r.b] < -t[!j]"} {
			s := accept(t, "P4.2", withNames("var e0: int; "+strings.NewReplacer("~", x, "@", "").Replace(place)))
			for i, stmt := range statements(s.Program) {
				checkNames(t, s, i, expressions(stmt))
			}
		}
	}
}

// checkNames checks the numbers of the expressions of a statement by the names that have these numbers.
func checkNames(t *testing.T, s api.Source, stmt int, all []api.Expr) {
	t.Helper()
	f := s.Stmts[stmt].Func
	for _, x := range all {
		switch x.Op {
		case api.ExprVariable, api.ExprField, api.ExprElement:
			if !slices.Contains(Visible(s, f, stmt), x.Var) || s.Vars[f][x.Var].Name != x.Name {
				t.Errorf("P4.3: at the statement %d the name in %+v has the wrong number", stmt, x)
				continue
			}
		default:
			if x.Var != 0 {
				t.Errorf("P4.3: %+v has a variable", x)
			}
		}
		if x.Op == api.ExprField && s.Program.Records[s.Vars[f][x.Var].Record].Fields[x.Number] != x.Field {
			t.Errorf("P4.3: at the statement %d the field in %+v has the wrong number", stmt, x)
		}
	}
}

// Functions are called ahead of and behind their text, and by themselves; a number stands where a call is, and only there.
func TestCallees(t *testing.T) {
	s := accept(t, "P4.2", "func f() { return h(1, 2); } func g(a) { g(a); a = f(); h(a, a); return g(a); } func h(a, b) { f(); a = g(b); return f(); return a; print b; }")
	callees := []int{}
	for _, stmt := range statements(s.Program) {
		callees = append(callees, stmt.Callee)
	}
	if want := []int{2, 0, 1, 0, 2, 1, 0, 0, 1, 0, 0, 0, 0}; !slices.Equal(callees, want) {
		t.Errorf("P4.3: the statements call %v, not %v", callees, want)
	}
}

// Names of records, fields, functions and variables are independent of each other, and so are variables of different functions.
func TestNamesOfDifferentThings(t *testing.T) {
	accept(t, "P4.2", "record x { x, y } record y { x, y } func x(x) { var y: x; x = x(x); y.x = y.y; return x(y.y); } func y(y, x) { y = x; var z: y; z.y = 1; if x { var Y: int; y(Y, y); } }")
}

func TestFind(t *testing.T) {
	names := []string{"f", "main", "F", "f1", "g", "a", "_", "abcdefghijkl"}
	text := ""
	for _, name := range names {
		text += "func " + name + "(a) { var b: int; } "
	}
	s := accept(t, "P4.2", "record R { x } "+text)
	for i, name := range names {
		if f, ok := Find(s, name); f != i || !ok {
			t.Errorf("P4.4: Find(%q) = %d, %v, not %d", name, f, ok, i)
		}
	}
	for _, name := range []string{"", "b", "R", "x", "ma", "main ", "MAIN", "int"} {
		if f, ok := Find(s, name); f != 0 || ok {
			t.Errorf("P4.4: Find(%q) = %d, %v", name, f, ok)
		}
	}
	if f, ok := Find(api.Source{}, "f"); f != 0 || ok {
		t.Errorf("P4.4: Find in an empty source = %d, %v", f, ok)
	}
}

// Find goes by the functions of the program alone, and takes the first one.
func TestFindTwice(t *testing.T) {
	s := api.Source{Program: api.Program{Funcs: []api.Func{{Name: "g"}, {Name: "f"}, {Name: "f"}, {Name: "g"}, {}}}}
	for name, want := range map[string]int{"g": 0, "f": 1, "": 4} {
		if f, ok := Find(s, name); f != want || !ok {
			t.Errorf("P4.4: Find(%q) = %d, %v, not %d", name, f, ok, want)
		}
	}
}

func TestVisible(t *testing.T) {
	s := accept(t, "P4.2", sample)
	for stmt, want := range []string{
		"0 1", "0 1 2", "0 1 2 3", "0 1 2 3", "0 1 2 3", "0 1 2 3 4", "0 1 2 3", "0 1 2 3", "0 1 2 3",
		"0 1 2 3", "0 1 2 3", "0 1 2 3 5", "0 1 2 3 6", "0 1 2 3 6 7", "0 1 2 3", "0 1 2 3", "", "",
	} {
		expectVisible(t, s, 0, stmt, want)
		in := ""
		if stmt >= 16 {
			in = "0"
		}
		expectVisible(t, s, 1, stmt, in)
	}
	for _, stmt := range []int{math.MinInt, -1, 18, 19, math.MaxInt} {
		expectVisible(t, s, 0, stmt, "")
		expectVisible(t, s, 1, stmt, "")
	}
	for _, f := range []int{math.MinInt, -1, 2, 3, math.MaxInt} {
		for stmt := -1; stmt < 20; stmt++ {
			expectVisible(t, s, f, stmt, "")
		}
	}
}

func expectVisible(t *testing.T, s api.Source, f, stmt int, want string) {
	t.Helper()
	if got := strings.Trim(fmt.Sprint(Visible(s, f, stmt)), "[]"); got != want {
		t.Errorf("P4.4: Visible(%d, %d) = %q, not %q", f, stmt, got, want)
	}
}

// Visible goes by From and To alone, of the functions that Vars has.
func TestVisibleOfOtherSources(t *testing.T) {
	v := func(from, to int) api.VarInfo { return api.VarInfo{From: from, To: to} }
	s := api.Source{Vars: [][]api.VarInfo{{v(3, 5), v(-2, 4), v(5, 4), v(0, 0), v(math.MinInt, math.MaxInt), v(4, 4)}}}
	for stmt, want := range map[int]string{-3: "4", -2: "1 4", -1: "1 4", 0: "1 3 4", 1: "1 4", 3: "0 1 4", 4: "0 1 4 5", 5: "0 4", 6: "4", math.MinInt: "4", math.MaxInt: "4"} {
		expectVisible(t, s, 0, stmt, want)
	}
	s = api.Source{Program: api.Program{Funcs: []api.Func{{Name: "f"}, {Name: "g"}}}, Vars: s.Vars, Stmts: []api.StmtInfo{{}, {Func: 1}}}
	expectVisible(t, s, 0, 3, "0 1 4")
	expectVisible(t, s, 1, 1, "")
	expectVisible(t, api.Source{}, 0, 0, "")
}
