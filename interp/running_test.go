package interp

import (
	"fmt"
	"strings"
	"testing"

	"debugger/api"
)

// The events of each kind of statement, in order.
func TestStatements(t *testing.T) {
	for _, c := range []struct {
		text, want string
		args       []int
	}{
		{"func f() { }", "0", nil},
		{"func f() { var a: int; a = 1; print a; }", "0 1 2 3", nil},
		{"func f() { return 1; }", "0", nil},
		{"func f() { print 1; return 1; print 2; }", "0 1", nil},
		{"func f() { throw 1; print 2; }", "0", nil},
		{"func f(a) { if a { print 1; } print 3; }", "0 2 3", []int{0}},
		{"func f(a) { if a { print 1; } print 3; }", "0 1 2 3", []int{1}},
		{"func f(a) { if a { print 1; } print 3; }", "0 1 2 3", []int{-1}},
		{"func f(a) { if a { print 1; } print 3; }", "0 1 2 3", []int{least}},
		{"func f(a) { if a { print 1; } else { print 2; print 3; } print 4; }", "0 2 3 4 5", []int{0}},
		{"func f(a) { if a { print 1; } else { print 2; print 3; } print 4; }", "0 1 4 5", []int{2}},
		{"func f(a) { if a { } else { } }", "0 1", []int{2}},
		{"func f(a) { if a { return 1; } print 2; }", "0 1", []int{2}},
		{"func f(a) { if a { } else { return 1; } print 2; }", "0 1", []int{0}},
		{"func f(a) { while a { } }", "0 1", []int{0}},
		{"func f(a) { while a { a = a - 1; } print a; }", "0 2 3", []int{0}},
		{"func f(a) { while a { a = a - 1; } print a; }", "0 1 0 2 3", []int{1}},
		{"func f(a) { while a { a = a - 1; } print a; }", "0 1 0 1 0 1 0 2 3", []int{3}},
		{"func f(a) { while a { a = a + 1; if a == 0 { return a; } } }", "0 1 2 0 1 2 3", []int{-2}},
		{"func f(a) { while 1 { while a { a = a - 1; } return a; } }", "0 1 2 1 2 1 3", []int{2}},
		{"func f() { try { print 1; } catch e { print 2; } print 3; }", "0 1 3 4", nil},
		{"func f() { try { throw 1; print 1; } catch e { print 2; } print 3; }", "0 1 3 4 5", nil},
		{"func f() { try { } catch e { print 2; } }", "0 2", nil},
		{"func f() { try { return 3; } catch e { print 2; } print 3; }", "0 1", nil},
		{"func f() { try { throw 3; } catch e { return e; } print 3; }", "0 1 2", nil},
		{"func f() { g(1); print 3; } func g(a) { print a; }", "0 2:3 2:4 1 2", nil},
		{"func f() { return g(1); print 3; } func g(a) { print a; }", "0 2:3 2:4", nil},
		{"func f() { return g(); } func g() { return h(); } func h() { g2(); } func g2() { }", "0 2:2 3:4 4:6 3:5", nil},
		{"func f() { while 1 { g(2); return 1; } } func g(a) { while a { a = a - 1; } }", "0 1 2:4 2:5 2:4 2:5 2:4 2:6 2", nil},
		{"func f() { try { g(); } catch e { print e; } } func g() { h(); print 1; } func h() { throw 4; }", "0 1 2:4 3:7 2 3", nil},
	} {
		expectStops(t, "P5.2", c.text, c.want, c.args...)
	}
}

func TestOutcomes(t *testing.T) {
	for _, c := range []struct {
		text, want string
		args       []int
	}{
		{"func f() { }", "value 0", nil},
		{"func f(a) { a = 3; }", "value 0", []int{1}},
		{"func f(a) { a = a + 1; return a; }", "value 5", []int{4}},
		{"func f(a, b, c, d) { return a + 10 * b + 100 * c + 1000 * d; }", "value 4321", []int{1, 2, 3, 4}},
		{"func f() { var a: int; return a; }", "value 0", nil},
		{"func f() { return -5; }", "value -5", nil},
		{"func f() { print 3; print 1; print 2; return 4; }", "value 4 output 3 1 2", nil},
		{"func f() { print 3; throw 4; }", "thrown 4 output 3", nil},
		{"func f() { throw 0; }", "thrown 0", nil},
		{"func f() { return g() ; } func g() { print 1; }", "value 0 output 1", nil},
		{"func f() { return g(); } func g() { return 8; }", "value 8", nil},
		{"func f() { g(); } func g() { return 8; }", "value 0", nil},
		{"func f() { return g(); } func g() { throw 8; }", "thrown 8", nil},
		{"func f(a) { a = g(a, a + 1); return a; } func g(a, b) { a = a * b; return a; }", "value 30", []int{5}},
		{"func f(a) { while a { a = a - 1; if a == 3 { return 77; } } return 1; }", "value 77", []int{5}},
		{"func f(a) { while a { a = a - 1; if a == 3 { throw 77; } } return 1; }", "thrown 77", []int{5}},
		{"func f(a) { if a { return 1; } else { return 2; } }", "value 1", []int{least}},
		{"func f(a) { if a { return 1; } else { return 2; } }", "value 2", []int{0}},
		{"func f(a) { if a < 2 { return a; } var x: int; x = f(a - 1); a = f(a - 2); return a + x; }", "value 55", []int{10}},
		{"func f(a, b) { while b { var t: int; t = a % b; a = b; b = t; } return a; }", "value 21", []int{1071, 462}},
	} {
		expectOutcome(t, "P5.2", c.text, c.want, c.args...)
	}
}

// A declaration makes the variable 0 each time that it is executed; only then.
func TestDeclarations(t *testing.T) {
	expectOutcome(t, "P5.2", "func f(a) { while a { var x: int; print x; x = x + a; print x; a = a - 1; } }", "value 0 output 0 3 0 2 0 1", 3)
	expectOutcome(t, "P5.2", "record R { p, q } func f(a) { while a { var r: R; print r.p + r.q; r.p = a; r.q = 5; a = a - 1; } }", "value 0 output 0 0", 2)
	expectOutcome(t, "P5.2", "func f(a) { while a { var l: int[3]; print l[0] + l[1] + l[2]; l[0] = 1; l[1] = 2; l[2] = 3; a = a - 1; } }", "value 0 output 0 0", 2)
	// The event of the declaration does not show the variable, the one behind it does.
	expectFrames(t, "P5.4", "func f(a) { while a { var x: int; x = a; a = a - 1; } }", []int{2},
		"f 0 a=2", "f 1 a=2", "f 2 a=2 x=0", "f 3 a=2 x=2", "f 0 a=1", "f 1 a=1", "f 2 a=1 x=0", "f 3 a=1 x=1", "f 0 a=0", "f 4 a=0")
	// Each variable has words of its own, each activation too.
	expectFrames(t, "P5.4", "func f(a) { var x: int; x = a; if a { f(a - 1); } return x; }", []int{1},
		"f 0 a=1", "f 1 a=1 x=0", "f 2 a=1 x=1", "f 3 a=1 x=1",
		"f 0 a=0 < f 3 a=1 x=1", "f 1 a=0 x=0 < f 3 a=1 x=1", "f 2 a=0 x=0 < f 3 a=1 x=1", "f 4 a=0 x=0 < f 3 a=1 x=1", "f 4 a=1 x=1")
}

func TestAssignments(t *testing.T) {
	expectFrames(t, "P5.2", "record R { p, q, r, s } func f(a) { var r: R; var l: int[3]; r.q = a; r.s = r.q + 1; l[r.q] = 9; l[0] = l[l[0] + 2]; l[1] = l[1] + r.s; a = l[2]; }", []int{2},
		"f 0 a=2", "f 1 a=2 r=0,0,0,0", "f 2 a=2 r=0,0,0,0 l=0,0,0", "f 3 a=2 r=0,2,0,0 l=0,0,0", "f 4 a=2 r=0,2,0,3 l=0,0,0",
		"f 5 a=2 r=0,2,0,3 l=0,0,9", "f 6 a=2 r=0,2,0,3 l=9,0,9", "f 7 a=2 r=0,2,0,3 l=9,3,9", "f 8 a=9 r=0,2,0,3 l=9,3,9")
}

// The index of an element that is assigned is refused ahead of the value.
func TestIndexAheadOfValue(t *testing.T) {
	in := func(statement string) string {
		return "func f(a) { var l: int[3]; try { " + statement + " } catch e { print e; } print l[0]; print l[1]; print l[2]; }"
	}
	for _, c := range []struct {
		statement string
		a         int
		want      string
	}{
		{"l[a] = 5;", 0, "5 0 0"},
		{"l[a] = 5;", 1, "0 5 0"},
		{"l[a] = 5;", 2, "0 0 5"},
		{"l[a] = 5;", 3, "2 0 0 0"},
		{"l[a] = 5;", -1, "2 0 0 0"},
		{"l[a] = 5;", least, "2 0 0 0"},
		{"l[a] = 5;", greatest, "2 0 0 0"},
		{"l[a] = 1 / 0;", 0, "1 0 0 0"},
		{"l[a] = 1 / 0;", 3, "2 0 0 0"},
		{"l[a] = 1 % 0;", -1, "2 0 0 0"},
		{"l[a / 0] = l[3];", 0, "1 0 0 0"},
		{"l[a] = l[3];", 2, "2 0 0 0"},
		{"l[l[a]] = 1 / 0;", 3, "2 0 0 0"},
		{"l[l[a]] = 1 / 0;", 2, "1 0 0 0"},
		{"l[0] = 4; l[l[0]] = 1 / 0;", 0, "2 4 0 0"},
		{"l[1] = 1; l[l[l[1]]] = l[1] + 6;", 0, "0 7 0"},
		{"a = l[a];", 3, "2 0 0 0"},
		{"print l[a];", -1, "2 0 0 0"},
	} {
		expectOutcome(t, "P5.2", in(c.statement), "value 0 output "+c.want, c.a)
	}
	expectOutcome(t, "P5.2", "func f() { var l: int[1]; l[1] = 4; }", "thrown 2")
	expectOutcome(t, "P5.2", "func f() { var l: int[8]; l[7] = 4; return l[7]; }", "value 4")
	expectOutcome(t, "P5.2", "func f() { var l: int[8]; l[8] = 4; return l[7]; }", "thrown 2")
}

// A statement that throws changes no variable.
func TestThrowingStatementsChangeNothing(t *testing.T) {
	for _, statement := range []string{"a = a / 0;", "a = g(1 / 0);", "a = g(1);", "a = l[4];", "l[0] = 3 / l[1];", "r.p = 1 % 0;", "return 1 / 0;", "print 1 / 0;", "if 1 / 0 { }", "while 1 / 0 { }"} {
		text := "record R { p } func f(a) { var l: int[2]; var r: R; l[0] = 6; r.p = 7; try { " + statement + " } catch e { print a; print l[0]; print r.p; } } func g(x) { throw x; }"
		expectOutcome(t, "P5.2", text, "value 0 output 5 6 7", 5)
	}
}

func TestCalls(t *testing.T) {
	for _, c := range []struct{ text, want string }{
		{"func f() { var x: int; x = 4; g(); print x; x = g(); print x; return g(); } func g() { return 7; }", "value 7 output 4 7"},
		{"func f() { var x: int; x = 4; x = g(); return x; } func g() { }", "value 0"},
		// The arguments are evaluated from left to right, ahead of the call.
		{"func f() { var l: int[1]; g(1 / 0, l[1]); } func g(a, b) { print 5; }", "thrown 1"},
		{"func f() { var l: int[1]; g(l[1], 1 / 0); } func g(a, b) { print 5; }", "thrown 2"},
		{"func f() { var l: int[1]; return g(0, l[1], 1 / 0); } func g(a, b, c) { print 5; }", "thrown 2"},
		{"func f() { g(3, 2, 1); } func g(a, b, c) { print a; print b; print c; }", "value 0 output 3 2 1"},
		// A parameter is a variable of its own.
		{"func f() { var x: int; x = 2; g(x); return x; } func g(x) { x = x + 1; print x; }", "value 2 output 3"},
		{"func f() { var x: int; x = 2; x = g(x, x); return x; } func g(x, y) { x = x + 1; return y; }", "value 2"},
		// The target is a variable of the caller, also if the callee has as many.
		{"func f() { var x: int; var y: int; y = g(); print x; return y; } func g() { var x: int; var y: int; x = 3; y = 4; return x; }", "value 3 output 0"},
	} {
		expectOutcome(t, "P5.2", c.text, c.want)
	}
	expectFrames(t, "P5.2", "func f(a) { a = g(a + 1); print a; } func g(b) { b = b * 2; return b; }", []int{3},
		"f 0 a=3", "g 3 b=4 < f 0 a=3", "g 4 b=8 < f 0 a=3", "f 1 a=8", "f 2 a=8")
}

// api.MaxCalls activations may be live, one more is refused once its arguments are evaluated.
func TestActivations(t *testing.T) {
	for _, call := range []string{"return f(a - 1);", "f(a - 1); return 0;", "a = f(a - 1); return a;"} {
		text := "func f(a) { if a == 0 { return 0; } " + call + " }"
		events, o := whole(source(t, text), 0, []int{api.MaxCalls - 1}, api.MaxSteps)
		deepest := 0
		for _, e := range events {
			deepest = max(deepest, len(e.Frames))
		}
		if describe(o) != "value 0" || deepest != api.MaxCalls {
			t.Errorf("P5.2: %q has %s and %d activations", text, describe(o), deepest)
		}
		expectOutcome(t, "P5.2", text, "error 5", api.MaxCalls)
	}
	for _, c := range []struct{ call, want string }{
		{"g(1);", "error 5"},
		{"a = g(1);", "error 5"},
		{"return g(1);", "error 5"},
		{"g(1 / 0);", "value 0 output 1"},
		{"return g(1 / 0);", "value 0 output 1"},
		{"print a;", "value 0 output 1"},
	} {
		text := "func f(a) { if a == 1 { try { " + c.call + " } catch e { print e; } return 0; } return f(a - 1); } func g(x) { return x; }"
		expectOutcome(t, "P5.2", text, c.want, api.MaxCalls)
	}
	// No StmtTry catches the error, and what was printed stays.
	expectOutcome(t, "P5.2", "func f(a) { try { print a; f(a + 1); } catch e { print -1; } }", "error 5 output "+words(series(0, api.MaxCalls)), 0)
	// Activations that have ended do not count.
	expectOutcome(t, "P5.2", "func f(a) { while a { g(); try { h(); } catch e { } a = a - 1; } return 3; } func g() { } func h() { throw 1; }", "value 3", 100)
	expectOutcome(t, "P5.2", "func f() { try { g(18); } catch e { print e; g(18); } } func g(a) { if a { g(a - 1); } else { throw 3; } }", "thrown 3 output 3")
	expectOutcome(t, "P5.2", "func f() { try { g(18); } catch e { print e; } try { g(18); } catch e { print e; } g(19); } func g(a) { if a { g(a - 1); } else { throw 3; } }", "error 5 output 3 3")
}

func series(from, count int) []int {
	l := []int{}
	for i := range count {
		l = append(l, from+i)
	}
	return l
}

func TestThrows(t *testing.T) {
	for _, c := range []struct{ text, want string }{
		{"func f() { try { throw 3; } catch e { print e; } return 1; }", "value 1 output 3"},
		{"func f() { try { try { throw 3; } catch e { print e; } print 4; } catch x { print x + 10; } }", "value 0 output 3 4"},
		{"func f() { try { try { throw 3; } catch e { throw e + 1; } } catch x { print x + 10; } }", "value 0 output 14"},
		{"func f() { try { throw 3; } catch e { throw e + 1; } }", "thrown 4"},
		{"func f() { try { throw 3; } catch e { try { throw e + 1; } catch x { print x; } print e; } }", "value 0 output 4 3"},
		{"func f() { try { if 1 { while 1 { throw 3; } } print 1; } catch e { print e; } }", "value 0 output 3"},
		{"func f() { try { g(); print 1; } catch e { print e; } } func g() { h(); print 2; } func h() { print 5; throw 3; }", "value 0 output 5 3"},
		{"func f() { try { g(); print 1; } catch e { print e; } } func g() { try { h(); } catch e { print e; throw e * 2; } } func h() { throw 3; }", "value 0 output 3 6"},
		{"func f() { g(); } func g() { try { } catch e { } h(); } func h() { throw 3; }", "thrown 3"},
		{"func f() { try { g(); } catch e { return e; } } func g() { try { return 1; } catch e { } }", "value 0"},
		{"func f() { try { print 1 / 0; } catch e { return e; } }", "value 1"},
		{"func f() { var l: int[2]; try { print l[2]; } catch e { return e; } }", "value 2"},
		{"func f() { try { } catch e { print e; } throw 9; }", "thrown 9"},
		{"func f() { try { throw 1; } catch e { } throw 9; }", "thrown 9"},
		{"func f() { try { throw 1; } catch e { } try { throw 2; } catch e { print e; } }", "value 0 output 2"},
		{"func f() { try { return g(); } catch e { return e + 1; } } func g() { throw 5; }", "value 6"},
		{"func f() { var x: int; try { x = g(); } catch e { print e; } return x; } func g() { throw 5; }", "value 0 output 5"},
		{"func f() { var i: int; while i < 3 { try { i = i + 1; throw i; } catch e { print e; } } }", "value 0 output 1 2 3"},
		{"func f() { try { try { print 1; } catch a { print a; } throw 4; } catch b { print b; } }", "value 0 output 1 4"},
	} {
		expectOutcome(t, "P5.2", c.text, c.want)
	}
	for _, value := range []int{least, -1, 0, 1, 2, greatest} {
		expectOutcome(t, "P5.2", "func f(a) { throw a; }", fmt.Sprintf("thrown %d", value), value)
		expectOutcome(t, "P5.2", "func f(a) { try { throw a; } catch e { return e; } }", fmt.Sprintf("value %d", value), value)
	}
}

// The variables of an activation that catches are those at the throw; the catch variable becomes the value each time.
func TestCatchVariables(t *testing.T) {
	expectFrames(t, "P5.2", "func f(a) { try { var x: int; x = a; g(x); } catch e { a = e; e = 9; } } func g(b) { b = b + 1; throw b; }", []int{4},
		"f 0 a=4", "f 1 a=4", "f 2 a=4 x=0", "f 3 a=4 x=4", "g 7 b=4 < f 3 a=4 x=4", "g 8 b=5 < f 3 a=4 x=4", "f 4 a=4 e=5", "f 5 a=5 e=5", "f 6 a=5")
	expectFrames(t, "P5.2", "func f(a) { while a { try { throw a; } catch e { a = a - 1; e = 7; } } }", []int{2},
		"f 0 a=2", "f 1 a=2", "f 2 a=2", "f 3 a=2 e=2", "f 4 a=1 e=2", "f 0 a=1", "f 1 a=1", "f 2 a=1", "f 3 a=1 e=1", "f 4 a=0 e=1", "f 0 a=0", "f 5 a=0")
	// Without a statement in Else, too.
	expectStops(t, "P5.2", "func f() { try { throw 1; } catch e { } }", "0 1 2")
}

// Blocks within blocks, as deep as a program has them.
func TestDeepBlocks(t *testing.T) {
	for _, c := range []struct{ open, close, want string }{
		{"if 1 { ", "} ", "value 3"},
		{"if 0 { } else { ", "} ", "value 3"},
		{"while 1 { ", "} ", "value 3"},
		{"try { ", "} catch e# { print e#; } ", "value 3"},
		{"try { throw #; } catch e# { ", "} ", "value 3"},
	} {
		text := ""
		for i := range api.MaxNest - 1 {
			text += strings.ReplaceAll(c.open, "#", fmt.Sprint(i))
		}
		text += "return 3; "
		for i := range api.MaxNest - 1 {
			text += strings.ReplaceAll(c.close, "#", fmt.Sprint(i))
		}
		expectOutcome(t, "P5.2", "func f() { "+text+"return 4; }", c.want)
	}
}
