package lower

import "testing"

// others are functions that the programs of these tests call: 1 and 2.
const others = " func g(x) { } func h() { }"

func expectTries(t *testing.T, cases map[string][]string) {
	t.Helper()
	for statement, want := range cases {
		want[0] = "(1) bind 0 to v0; mark 0; " + want[0]
		expectCode(t, "P7.4", "func f(a) { "+statement+" }"+others, want...)
	}
}

// Without an edge to the handler, Else is not lowered; Body is lowered in the block of the StmtTry.
func TestTriesWithoutThrows(t *testing.T) {
	expectTries(t, map[string][]string{
		"try { a = 1; } catch e { print e; } print a;": {
			"mark 1; v1 = 1; bind 0 to v1; jump 1(v1)",
			"(1) bind 0 to v0; mark 3; print v0; mark 4; v1 = 0; return v1"},
		"try { } catch e { a = e / 0; }": {
			"jump 1(v0)",
			"(1) bind 0 to v0; mark 2; v1 = 0; return v1"},
		"try { return 1; } catch e { print e; } print 2;": {
			"mark 1; v1 = 1; return v1"},
		"try { try { return 1; } catch e { } print 2; } catch x { print x; } print 3;": {
			"mark 1; mark 2; v1 = 1; return v1"},
		// A thrown value that the inner handler takes does not reach the outer one.
		"try { try { throw a; } catch e { return e; } } catch x { print x; } print 3;": {
			"mark 1; mark 2; jump 1(v0 v0)",
			"(2) bind 0 to v1; bind 1 to v0; mark 3; return v0"},
	})
}

func TestThrows(t *testing.T) {
	expectTries(t, map[string][]string{
		"try { throw a; } catch e { print e; }": {
			"mark 1; jump 1(v0 v0)",
			"(2) bind 0 to v1; bind 1 to v0; mark 2; print v0; jump 2(v1)",
			"(1) bind 0 to v0; mark 3; v1 = 0; return v1"},
		"try { throw a; } catch e { }": {
			"mark 1; jump 1(v0 v0)",
			"(2) bind 0 to v1; bind 1 to v0; jump 2(v1)",
			"(1) bind 0 to v0; mark 2; v1 = 0; return v1"},
		"try { throw a + 1; } catch e { return e; } print 5;": {
			"mark 1; v1 = 1; v2 = v0 + v1; jump 1(v2 v0)",
			"(2) bind 0 to v1; bind 1 to v0; mark 2; return v0"},
		"try { if a { throw 3; } a = 4; } catch e { a = e; } print a;": {
			"mark 1; branch v0 1(v0) 2(v0)",
			"(1) bind 0 to v0; mark 2; v1 = 3; jump 3(v1 v0)",
			"(1) bind 0 to v0; mark 3; v1 = 4; bind 0 to v1; jump 4(v1)",
			"(2) bind 0 to v1; bind 1 to v0; mark 4; v2 = copy v0; bind 0 to v2; jump 4(v2)",
			"(1) bind 0 to v0; mark 5; print v0; mark 6; v1 = 0; return v1"},
		// The handler gets the values that the pieces have where something is thrown.
		"try { a = 2; throw a; } catch e { return a; }": {
			"mark 1; v1 = 2; bind 0 to v1; mark 2; jump 1(v1 v1)",
			"(2) bind 0 to v1; bind 1 to v0; mark 3; return v1"},
	})
}

// A throwing block begins with all pieces; the handler has those of the StmtTry only.
func TestThrowingBlocks(t *testing.T) {
	expectTries(t, map[string][]string{
		// The throwing block is filled first, so the handler gets its number ahead of what the block that continues leads to.
		"try { a = 5 / a; } catch e { a = e; }": {
			"mark 1; v1 = 5; branch v0 1(v0 v1 v0) 2(v0)",
			"(3) bind 0 to v0; at 1; v3 = v1 / v2; bind 0 to v3; jump 4(v3)",
			"(1) bind 0 to v0; at 1; v1 = 1; jump 3(v1 v0)",
			"(2) bind 0 to v1; bind 1 to v0; mark 2; v2 = copy v0; bind 0 to v2; jump 4(v2)",
			"(1) bind 0 to v0; mark 3; v1 = 0; return v1"},
		"try { var x: int; x = a / x; print x; } catch e { }": {
			"mark 1; v1 = 0; bind 1 to v1; mark 2; branch v1 1(v0 v1 v0 v1) 2(v0 v1)",
			"(4) bind 0 to v0; bind 1 to v1; at 2; v4 = v2 / v3; bind 1 to v4; mark 3; print v4; jump 4(v0)",
			"(2) bind 0 to v0; bind 1 to v1; at 2; v2 = 1; jump 3(v2 v0)",
			"(2) bind 0 to v1; bind 2 to v0; jump 4(v1)",
			"(1) bind 0 to v0; mark 4; v1 = 0; return v1"},
		"try { print 6 % a - 7 % a; } catch e { }": {
			"mark 1; v1 = 6; branch v0 1(v0 v1 v0) 2(v0)",
			"(3) bind 0 to v0; at 1; v3 = v1 % v2; v4 = 7; branch v0 4(v0 v3 v4 v0) 5(v0)",
			"(1) bind 0 to v0; at 1; v1 = 1; jump 3(v1 v0)",
			"(2) bind 0 to v1; bind 1 to v0; jump 6(v1)",
			"(4) bind 0 to v0; at 1; v4 = v2 % v3; v5 = v1 - v4; print v5; jump 6(v0)",
			"(1) bind 0 to v0; at 1; v1 = 1; jump 3(v1 v0)",
			"(1) bind 0 to v0; mark 2; v1 = 0; return v1"},
		// In a catch part the try statement is not the innermost one any more.
		"try { throw 1; } catch e { a = 5 / e; h(); throw a; }": {
			"mark 1; v1 = 1; jump 1(v1 v0)",
			"(2) bind 0 to v1; bind 1 to v0; mark 2; v2 = 5; branch v0 2(v1 v0 v2 v0) 3(v1 v0)",
			"(4) bind 0 to v0; bind 1 to v1; at 2; v4 = v2 / v3; bind 0 to v4; mark 3; call 2() 4(v4 v1)",
			"(2) bind 0 to v0; bind 1 to v1; at 2; v2 = 1; throw v2",
			"(3) bind 0 to v1; bind 1 to v2; at 3; mark 4; throw v1"},
		// Behind a try statement it is not, either.
		"try { } catch e { } a = 5 / a; throw a;": {
			"jump 1(v0)",
			"(1) bind 0 to v0; mark 1; v1 = 5; branch v0 2(v0 v1 v0) 3(v0)",
			"(3) bind 0 to v0; at 1; v3 = v1 / v2; bind 0 to v3; mark 2; throw v3",
			"(1) bind 0 to v0; at 1; v1 = 1; throw v1"},
	})
	expectCode(t, "P7.4", "func f(a) { var l: int[4]; while a { try { l[a] = 1; } catch e { a = a - e; } } }",
		"object 0 1 4",
		"(1) bind 0 to v0; mark 0; zero 0; jump 1(v0)",
		"(1) bind 0 to v0; mark 1; branch v0 2(v0) 3(v0)",
		"(1) bind 0 to v0; mark 2; mark 3; v1 = 0; v2 = v0 < v1; v3 = 4; v4 = v3 <= v0; v5 = v2 | v4; branch v5 4(v0) 5(v0 v0)",
		"(1) bind 0 to v0; mark 5; v1 = 0; return v1",
		"(1) bind 0 to v0; at 3; v1 = 2; jump 6(v1 v0)",
		"(2) bind 0 to v0; at 3; v2 = 1; store 0 v1 v2; jump 7(v0)",
		"(2) bind 0 to v1; bind 2 to v0; mark 4; v2 = v1 - v0; bind 0 to v2; jump 7(v2)",
		"(1) bind 0 to v0; jump 1(v0)")
}

func TestCallsInTries(t *testing.T) {
	expectTries(t, map[string][]string{
		"try { h(); a = g(a); } catch e { print e; }": {
			"mark 1; call 2() 1(v0) 2(v0)",
			"(2) bind 0 to v1; at 1; mark 2; call 1(v1) 3(v1) 2(v1)",
			"(2) bind 0 to v1; bind 1 to v0; mark 3; print v0; jump 4(v1)",
			"(2) bind 0 to v1; at 2; bind 0 to v0; jump 4(v0)",
			"(1) bind 0 to v0; mark 4; v1 = 0; return v1"},
		"try { return g(a); } catch e { return e; }": {
			"mark 1; call 1(v0) 1(v0) 2(v0)",
			"(2) bind 0 to v1; at 1; return v0",
			"(2) bind 0 to v1; bind 1 to v0; mark 2; return v0"},
		"try { var x: int; x = h(); } catch e { }": {
			"mark 1; v1 = 0; bind 1 to v1; mark 2; call 2() 1(v0 v1) 2(v0)",
			"(3) bind 0 to v1; bind 1 to v2; at 2; bind 1 to v0; jump 3(v1)",
			"(2) bind 0 to v1; bind 2 to v0; jump 3(v1)",
			"(1) bind 0 to v0; mark 3; v1 = 0; return v1"},
		// In a catch part there is no second edge.
		"try { throw 1; } catch e { return g(e); }": {
			"mark 1; v1 = 1; jump 1(v1 v0)",
			"(2) bind 0 to v1; bind 1 to v0; mark 2; call 1(v0) 2(v1 v0)",
			"(3) bind 0 to v1; bind 1 to v2; at 2; return v0"},
	})
}

func TestTriesInTries(t *testing.T) {
	expectTries(t, map[string][]string{
		"try { try { throw 1; } catch e { throw 2; } } catch x { print x; }": {
			"mark 1; mark 2; v1 = 1; jump 1(v1 v0)",
			"(2) bind 0 to v1; bind 1 to v0; mark 3; v2 = 2; jump 2(v2 v1)",
			"(2) bind 0 to v1; bind 2 to v0; mark 4; print v0; jump 3(v1)",
			"(1) bind 0 to v0; mark 5; v1 = 0; return v1"},
		"try { throw 1; } catch e { try { a = 1 / e; } catch x { a = x; } a = e; }": {
			"mark 1; v1 = 1; jump 1(v1 v0)",
			"(2) bind 0 to v1; bind 1 to v0; mark 2; mark 3; v2 = 1; branch v0 2(v1 v0 v2 v0) 3(v1 v0)",
			"(4) bind 0 to v0; bind 1 to v1; at 3; v4 = v2 / v3; bind 0 to v4; jump 5(v4 v1)",
			"(2) bind 0 to v0; bind 1 to v1; at 3; v2 = 1; jump 4(v2 v0 v1)",
			"(3) bind 0 to v1; bind 1 to v2; bind 2 to v0; mark 4; v3 = copy v0; bind 0 to v3; jump 5(v3 v2)",
			"(2) bind 0 to v0; bind 1 to v1; mark 5; v2 = copy v1; bind 0 to v2; jump 6(v2)",
			"(1) bind 0 to v0; mark 6; v1 = 0; return v1"},
		// Behind the inner one the outer one is the innermost one again.
		"try { try { h(); } catch e { } h(); } catch x { }": {
			"mark 1; mark 2; call 2() 1(v0) 2(v0)",
			"(2) bind 0 to v1; at 2; jump 3(v1)",
			"(2) bind 0 to v1; bind 1 to v0; jump 3(v1)",
			"(1) bind 0 to v0; mark 3; call 2() 4(v0) 5(v0)",
			"(2) bind 0 to v1; at 3; jump 6(v1)",
			"(2) bind 0 to v1; bind 2 to v0; jump 6(v1)",
			"(1) bind 0 to v0; mark 4; v1 = 0; return v1"},
		"try { try { throw 1; } catch e { h(); } } catch x { }": {
			"mark 1; mark 2; v1 = 1; jump 1(v1 v0)",
			"(2) bind 0 to v1; bind 1 to v0; mark 3; call 2() 2(v1 v0) 3(v1)",
			"(3) bind 0 to v1; bind 1 to v2; at 3; jump 4(v1)",
			"(2) bind 0 to v1; bind 2 to v0; jump 5(v1)",
			"(1) bind 0 to v0; jump 5(v0)",
			"(1) bind 0 to v0; mark 4; v1 = 0; return v1"},
		// The inner handler has a piece more than the outer one.
		"try { var x: int; try { x = a / x; } catch e { throw e; } throw x; } catch y { }": {
			"mark 1; v1 = 0; bind 1 to v1; mark 2; mark 3; branch v1 1(v0 v1 v0 v1) 2(v0 v1)",
			"(4) bind 0 to v0; bind 1 to v1; at 3; v4 = v2 / v3; bind 1 to v4; jump 4(v0 v4)",
			"(2) bind 0 to v0; bind 1 to v1; at 3; v2 = 1; jump 3(v2 v0 v1)",
			"(3) bind 0 to v1; bind 1 to v2; bind 2 to v0; mark 4; jump 5(v0 v1)",
			"(2) bind 0 to v0; bind 1 to v1; mark 5; jump 5(v1 v0)",
			"(2) bind 0 to v1; bind 3 to v0; jump 6(v1)",
			"(1) bind 0 to v0; mark 6; v1 = 0; return v1"},
	})
}

// A catch variable is numbered behind the variables of Body and ahead of those of Else.
func TestCatchVariables(t *testing.T) {
	expectTries(t, map[string][]string{
		"try { var x: int; throw x; } catch e { var y: int; y = e / a; }": {
			"mark 1; v1 = 0; bind 1 to v1; mark 2; jump 1(v1 v0)",
			"(2) bind 0 to v1; bind 2 to v0; mark 3; v2 = 0; bind 3 to v2; mark 4; branch v1 2(v1 v0 v2 v0 v1) 3(v1 v0 v2)",
			"(5) bind 0 to v0; bind 2 to v1; bind 3 to v2; at 4; v5 = v3 / v4; bind 3 to v5; jump 4(v0)",
			"(3) bind 0 to v0; bind 2 to v1; bind 3 to v2; at 4; v3 = 1; throw v3",
			"(1) bind 0 to v0; mark 5; v1 = 0; return v1"},
		"try { throw a; } catch e { e = a; a = e; }": {
			"mark 1; jump 1(v0 v0)",
			"(2) bind 0 to v1; bind 1 to v0; mark 2; v2 = copy v1; bind 1 to v2; mark 3; v3 = copy v2; bind 0 to v3; jump 2(v3)",
			"(1) bind 0 to v0; mark 4; v1 = 0; return v1"},
	})
}
