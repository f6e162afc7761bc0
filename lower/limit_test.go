package lower

import (
	"fmt"
	"strings"
	"testing"

	"debugger/api"
	"debugger/parser"
)

// divisions returns an expression with so many divisions, each of which has two blocks.
func divisions(n int) string { return "1" + strings.Repeat("/1", n) }

// expectLimit checks that a source whose last function would have so many items has a code if they are no more than the limit.
func expectLimit(t *testing.T, about string, s api.Source, items, limit int, count func(api.Code) int) {
	t.Helper()
	last := len(s.Program.Funcs) - 1
	if n := count(unlimited(s).Funcs[last]); n != items {
		t.Errorf("P7.1: %s would have %d items, not %d", about, n, items)
	}
	if items > limit {
		expectError(t, "P7.1", about, s, api.ErrLimit)
		return
	}
	if n := count(lowered(t, "P7.1", s).Funcs[last]); n != items {
		t.Errorf("P7.1: %s has %d items, not %d", about, n, items)
	}
}

func countBlocks(c api.Code) int {
	blocks, _, _ := sizes(c)
	return blocks
}

func countOperations(c api.Code) int {
	_, ops, _ := sizes(c)
	return ops
}

func countParameters(c api.Code) int {
	_, _, params := sizes(c)
	return params
}

func TestNumbersOfBlocks(t *testing.T) {
	for statements, want := range map[string]int{
		"print " + divisions(199) + ";":                                         399,
		"print " + divisions(199) + "; f();":                                    400,
		"print " + divisions(199) + "; f(); f();":                               401,
		"print " + divisions(200) + ";":                                         401,
		"f(); print " + divisions(199) + ";":                                    400,
		"f(); print " + divisions(200) + ";":                                    402,
		"print " + divisions(198) + "; while 1 { }":                             400,
		"print " + divisions(199) + "; while 1 { }":                             402,
		"print " + divisions(198) + "; if 1 { } else { print 1; }":              400,
		"print " + divisions(198) + "; f(); if 1 { } else { print 1; }":         401,
		"print " + divisions(198) + "; f(); if 1 { }":                           400,
		"print " + divisions(199) + "; if 1 { }":                                401,
		"print " + divisions(198) + "; try { f(); } catch e { }":                400,
		"print " + divisions(198) + "; f(); try { f(); } catch e { }":           401,
		"print " + divisions(198) + "; f(); f(); try { } catch e { }":           400,
		"print " + divisions(199) + "; f(); try { } catch e { }":                401,
		"try { print " + divisions(198) + "; } catch e { f(); }":                400,
		"try { print " + divisions(198) + "; } catch e { f(); f(); }":           401,
		"var l: int[1]; print " + divisions(198) + "; f(); print l[0];":         400,
		"var l: int[1]; print " + divisions(198) + "; f(); l[0] = l[0];":        402,
		"print " + divisions(199) + "; return f();":                             400,
		"f(); print " + divisions(199) + "; return f();":                        401,
		"f(); print " + divisions(199) + "; return 1; return f(); print 1/1+2;": 400,
	} {
		s := source(t, "func g() { } func h() { return g(); } func f() { "+statements+" }")
		expectLimit(t, statements, s, want, api.MaxBlocks, countBlocks)
	}
	// The limit is that of each function.
	full := "() { print " + divisions(199) + "; f(); } "
	lowered(t, "P7.1", source(t, "func f"+full+"func g"+full+"func h"+full))
	more := "() { print " + divisions(199) + "; f(); f(); } "
	expectError(t, "P7.1", "one function with more", source(t, "func f"+full+"func g"+full+"func h"+more), api.ErrLimit)
	expectError(t, "P7.1", "one function with more", source(t, "func f"+full+"func g"+more+"func h"+full), api.ErrLimit)
	expectError(t, "P7.1", "one function with more", source(t, "func f"+more+"func g"+full+"func h"+full), api.ErrLimit)
}

// A call in a function with 10 records of four fields has 42 operations.
func TestNumbersOfOperations(t *testing.T) {
	records := ""
	for i := range 10 {
		records += fmt.Sprintf("var r%d: R; ", i)
	}
	calls := func(n int) string { return strings.Repeat("f(); ", n) }
	prints := func(n int) string { return strings.Repeat("print 1; ", n) }
	for statements, want := range map[string]int{
		"": 92,
		calls(140) + "var x: int[1]; var y: int[1]; " + prints(8): 6000,
		calls(140) + "var x: int[1]; " + prints(9):                6001,
		prints(9) + "var x: int[1]; " + calls(140):                6001,
		calls(140) + prints(10):                                   6002,
		calls(139) + prints(23) + "return 1;":                     5999,
		calls(139) + prints(24) + "return r0.a + r0.b;":           6002,
		calls(139) + prints(23) + "return r0.a + 1;":              6000,
		calls(139) + prints(23) + "throw -2;":                     6001,
		calls(139) + prints(22) + "r0.a = r1.b; return 1;":        5999,
		calls(139) + prints(22) + "r0.a = r1.b; throw !2;":        6001,
		calls(139) + "var y: R; return 1;":                        5939,
		calls(140) + prints(9) + "return r0.a; " + calls(3):       5998,
		calls(140) + prints(10) + "return r0.a;":                  6001,
		calls(139) + "while 1 { throw 1; }":                       6054,
	} {
		s := source(t, "record R { a, b, c, d } func g() { } func f() { "+records+statements+" }")
		expectLimit(t, statements, s, want, api.MaxOps, countOperations)
	}
}

// No text has an expression that is deep enough, but Check does not count the levels of one.
func TestNumbersOfParameters(t *testing.T) {
	one := api.Expr{Number: 1}
	for _, c := range []struct {
		about     string
		inner     api.Expr
		variables int // how many scalars there are
		pending   int // how many values are pending in inner
	}{
		{"a division", api.Expr{Op: api.ExprDiv, Args: []api.Expr{one, one}}, 0, 2},
		{"a division with variables", api.Expr{Op: api.ExprMod, Args: []api.Expr{one, one}}, 20, 2},
		{"an element", api.Expr{Op: api.ExprElement, Name: "l", Args: []api.Expr{one}}, 7, 1},
	} {
		for total := 997; total <= 1001; total++ {
			x := c.inner
			for range total - c.variables - c.pending {
				x = api.Expr{Op: api.ExprAdd, Args: []api.Expr{one, x}}
			}
			expectLimit(t, c.about, checked(t, withValue(t, c.variables, x)), total, 999, countParameters)
		}
	}
}

// withValue returns a program with so many scalars and an array that returns an expression.
func withValue(t *testing.T, scalars int, x api.Expr) api.Program {
	t.Helper()
	list := ""
	for i := range scalars {
		list += fmt.Sprintf("var x%d: int; ", i)
	}
	p, _, e := parser.Parse("func f() { " + list + "var l: int[3]; return 0; }")
	if e != api.OK {
		t.Fatal("no program")
	}
	p.Funcs[0].Body[scalars+1].Args = []api.Expr{x}
	return p
}

// What is not lowered does not count.
func TestRestsDoNotCount(t *testing.T) {
	s := source(t, "func f() { return 1; print "+divisions(300)+"; }")
	if blocks, ops, _ := sizes(lowered(t, "P7.1", s).Funcs[0]); blocks != 1 || ops != 2 {
		t.Errorf("P7.1: there are %d blocks and %d operations", blocks, ops)
	}
	lowered(t, "P7.1", source(t, "func f() { try { } catch e { print "+divisions(300)+"; } }"))
}
