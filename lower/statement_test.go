package lower

import "testing"

func TestEnds(t *testing.T) {
	expectCode(t, "P7.4", "func f() { }", "(0) mark 0; v0 = 0; return v0")
	expectCode(t, "P7.4", "func f(a, b, c, d) { }", "(4) bind 0 to v0; bind 1 to v1; bind 2 to v2; bind 3 to v3; mark 0; v4 = 0; return v4")
	expectCode(t, "P7.4", "func f(a) { return a; }", "(1) bind 0 to v0; mark 0; return v0")
	expectCode(t, "P7.4", "func f(a) { throw a; }", "(1) bind 0 to v0; mark 0; throw v0")
	expectCode(t, "P7.4", "func f(a) { throw a + 1; }", "(1) bind 0 to v0; mark 0; v1 = 1; v2 = v0 + v1; throw v2")
	expectCode(t, "P7.4", "func f(a) { print a; print 3; }", "(1) bind 0 to v0; mark 0; print v0; mark 1; v1 = 3; print v1; mark 2; v2 = 0; return v2")
}

// Behind a statement that nothing follows, the rest of a list is not lowered.
func TestRestsOfLists(t *testing.T) {
	for _, word := range []string{"return", "throw"} {
		for _, rest := range []string{"print 1;", "return 2;", "throw 3;", "while 1 { }", "var x: int; x = 3;", "f(a / 0);", "try { throw 1; } catch e { }"} {
			expectCode(t, "P7.4", "func f(a) { "+word+" a; "+rest+" }", "(1) bind 0 to v0; mark 0; "+word+" v0")
		}
	}
	expectCode(t, "P7.4", "func f(a) { return f(a); print a; }",
		"(1) bind 0 to v0; mark 0; call 0(v0) 1(v0)",
		"(2) bind 0 to v1; at 0; return v0")
	expectCode(t, "P7.4", "func f(a) { if a { return 1; } else { throw 2; } print 3; }",
		"(1) bind 0 to v0; mark 0; branch v0 1(v0) 2(v0)",
		"(1) bind 0 to v0; mark 1; v1 = 1; return v1",
		"(1) bind 0 to v0; mark 2; v1 = 2; throw v1")
}

func TestDeclarations(t *testing.T) {
	expectCode(t, "P7.4", "func f() { var x: int; }", "(0) mark 0; v0 = 0; bind 0 to v0; mark 1; v1 = 0; return v1")
	expectCode(t, "P7.4", "record R { p } func f() { var x: R; }", "(0) mark 0; v0 = 0; bind 0 to v0; mark 1; v1 = 0; return v1")
	expectCode(t, "P7.4", "record R { p, q, r, s } func f(a) { var x: R; }", "(1) bind 0 to v0; mark 0; v1 = 0; bind 1 to v1; v2 = 0; bind 1.1 to v2; v3 = 0; bind 1.2 to v3; v4 = 0; bind 1.3 to v4; mark 1; v5 = 0; return v5")
	expectCode(t, "P7.4", "func f() { var x: int[1]; }", "object 0 0 1", "(0) mark 0; zero 0; mark 1; v0 = 0; return v0")
	expectCode(t, "P7.4", "func f(a) { var x: int[8]; var y: int; var z: int[2]; }", "object 0 1 8", "object 0 3 2", "(1) bind 0 to v0; mark 0; zero 0; mark 1; v1 = 0; bind 2 to v1; mark 2; zero 1; mark 3; v2 = 0; return v2")
}

// A declaration in a loop makes everything 0 each time.
func TestDeclarationsInLoops(t *testing.T) {
	expectCode(t, "P7.4", "record R { p, q } func f(a) { while a { var x: int; var r: R; var l: int[2]; x = a; } }",
		"object 0 3 2",
		"(1) bind 0 to v0; jump 1(v0)",
		"(1) bind 0 to v0; mark 0; branch v0 2(v0) 3(v0)",
		"(1) bind 0 to v0; mark 1; v1 = 0; bind 1 to v1; mark 2; v2 = 0; bind 2 to v2; v3 = 0; bind 2.1 to v3; mark 3; zero 0; mark 4; v4 = copy v0; bind 1 to v4; jump 1(v0)",
		"(1) bind 0 to v0; mark 5; v1 = 0; return v1")
}

func TestAssignments(t *testing.T) {
	// A piece that is assigned is copied.
	expectCode(t, "P7.4", "func f(a, b) { a = b; b = a; a = (a); }",
		"(2) bind 0 to v0; bind 1 to v1; mark 0; v2 = copy v1; bind 0 to v2; mark 1; v3 = copy v2; bind 1 to v3; mark 2; v4 = copy v2; bind 0 to v4; mark 3; v5 = 0; return v5")
	expectCode(t, "P7.4", "record R { p, q } func f(a) { var r: R; r.q = a; a = r.q; r.p = r.q; }",
		"(1) bind 0 to v0; mark 0; v1 = 0; bind 1 to v1; v2 = 0; bind 1.1 to v2; mark 1; v3 = copy v0; bind 1.1 to v3; mark 2; v4 = copy v3; bind 0 to v4; mark 3; v5 = copy v3; bind 1 to v5; mark 4; v6 = 0; return v6")
	// Nothing else is.
	for expression, want := range map[string]string{
		"5":     "v1 = 5; bind 0 to v1; mark 1; v2 = 0; return v2",
		"-a":    "v1 = 0; v2 = v1 - v0; bind 0 to v2; mark 1; v3 = 0; return v3",
		"!a":    "v1 = 0; v2 = v0 == v1; bind 0 to v2; mark 1; v3 = 0; return v3",
		"a + a": "v1 = v0 + v0; bind 0 to v1; mark 1; v2 = 0; return v2",
		"a < a": "v1 = v0 < v0; bind 0 to v1; mark 1; v2 = 0; return v2",
	} {
		expectCode(t, "P7.4", "func f(a) { a = "+expression+"; }", "(1) bind 0 to v0; mark 0; "+want)
	}
	expectCode(t, "P7.4", "record R { p, q } func f(a) { var r: R; r.q = 5 / a; r.p = 7; }",
		"(1) bind 0 to v0; mark 0; v1 = 0; bind 1 to v1; v2 = 0; bind 1.1 to v2; mark 1; v3 = 5; branch v0 1(v0 v1 v2 v3 v0) 2(v0 v1 v2)",
		"(5) bind 0 to v0; bind 1 to v1; bind 1.1 to v2; at 1; v5 = v3 / v4; bind 1.1 to v5; mark 2; v6 = 7; bind 1 to v6; mark 3; v7 = 0; return v7",
		"(3) bind 0 to v0; bind 1 to v1; bind 1.1 to v2; at 1; v3 = 1; throw v3")
	expectCode(t, "P7.4", "func f(a) { var l: int[3]; a = l[a]; }",
		"object 0 1 3",
		"(1) bind 0 to v0; mark 0; zero 0; mark 1; v1 = 0; v2 = v0 < v1; v3 = 3; v4 = v3 <= v0; v5 = v2 | v4; branch v5 1(v0) 2(v0 v0)",
		"(1) bind 0 to v0; at 1; v1 = 2; throw v1",
		"(2) bind 0 to v0; at 1; v2 = load 0 v1; bind 0 to v2; mark 2; v3 = 0; return v3")
}

// The index, the range check, the value, and then the store.
func TestAssignmentsOfElements(t *testing.T) {
	const throws = "(2) bind 0 to v0; bind 1 to v1; at 2; v2 = 2; throw v2"
	for _, c := range []struct {
		statement string
		want      []string
	}{
		{"l[a] = b;", []string{
			"v2 = 0; v3 = v0 < v2; v4 = 3; v5 = v4 <= v0; v6 = v3 | v5; branch v6 1(v0 v1) 2(v0 v1 v0)",
			throws,
			"(3) bind 0 to v0; bind 1 to v1; at 2; store 0 v2 v1; mark 3; v3 = 0; return v3"}},
		{"m[1 + 1] = a - 2;", []string{
			"v2 = 1; v3 = 1; v4 = v2 + v3; v5 = 0; v6 = v4 < v5; v7 = 5; v8 = v7 <= v4; v9 = v6 | v8; branch v9 1(v0 v1) 2(v0 v1 v4)",
			throws,
			"(3) bind 0 to v0; bind 1 to v1; at 2; v3 = 2; v4 = v0 - v3; store 1 v2 v4; mark 3; v5 = 0; return v5"}},
		{"l[a] = m[b];", []string{
			"v2 = 0; v3 = v0 < v2; v4 = 3; v5 = v4 <= v0; v6 = v3 | v5; branch v6 1(v0 v1) 2(v0 v1 v0)",
			throws,
			"(3) bind 0 to v0; bind 1 to v1; at 2; v3 = 0; v4 = v1 < v3; v5 = 5; v6 = v5 <= v1; v7 = v4 | v6; branch v7 3(v0 v1) 4(v0 v1 v2 v1)",
			throws,
			"(4) bind 0 to v0; bind 1 to v1; at 2; v4 = load 1 v3; store 0 v2 v4; mark 3; v5 = 0; return v5"}},
		{"l[a] = 9 / b;", []string{
			"v2 = 0; v3 = v0 < v2; v4 = 3; v5 = v4 <= v0; v6 = v3 | v5; branch v6 1(v0 v1) 2(v0 v1 v0)",
			throws,
			"(3) bind 0 to v0; bind 1 to v1; at 2; v3 = 9; branch v1 3(v0 v1 v2 v3 v1) 4(v0 v1)",
			"(5) bind 0 to v0; bind 1 to v1; at 2; v5 = v3 / v4; store 0 v2 v5; mark 3; v6 = 0; return v6",
			"(2) bind 0 to v0; bind 1 to v1; at 2; v2 = 1; throw v2"}},
		{"l[m[a]] = b;", []string{
			"v2 = 0; v3 = v0 < v2; v4 = 5; v5 = v4 <= v0; v6 = v3 | v5; branch v6 1(v0 v1) 2(v0 v1 v0)",
			throws,
			"(3) bind 0 to v0; bind 1 to v1; at 2; v3 = load 1 v2; v4 = 0; v5 = v3 < v4; v6 = 3; v7 = v6 <= v3; v8 = v5 | v7; branch v8 3(v0 v1) 4(v0 v1 v3)",
			throws,
			"(3) bind 0 to v0; bind 1 to v1; at 2; store 0 v2 v1; mark 3; v3 = 0; return v3"}},
	} {
		c.want[0] = "(2) bind 0 to v0; bind 1 to v1; mark 0; zero 0; mark 1; zero 1; mark 2; " + c.want[0]
		expectCode(t, "P7.4", "func f(a, b) { var l: int[3]; var m: int[5]; "+c.statement+" }", append([]string{"object 0 2 3", "object 0 3 5"}, c.want...)...)
	}
}

func TestCalls(t *testing.T) {
	const others = " func g(x, y) { } func h() { }"
	for _, c := range []struct {
		statement string
		want      []string
	}{
		{"h();", []string{
			"call 2() 1(v0 v1)",
			"(3) bind 0 to v1; bind 1 to v2; at 0; mark 1; v3 = 0; return v3"}},
		{"g(b, a);", []string{
			"call 1(v1 v0) 1(v0 v1)",
			"(3) bind 0 to v1; bind 1 to v2; at 0; mark 1; v3 = 0; return v3"}},
		{"g(a, a);", []string{
			"call 1(v0 v0) 1(v0 v1)",
			"(3) bind 0 to v1; bind 1 to v2; at 0; mark 1; v3 = 0; return v3"}},
		{"b = g(a + 1, 3);", []string{
			"v2 = 1; v3 = v0 + v2; v4 = 3; call 1(v3 v4) 1(v0 v1)",
			"(3) bind 0 to v1; bind 1 to v2; at 0; bind 1 to v0; mark 1; v3 = 0; return v3"}},
		{"a = h(); print a;", []string{
			"call 2() 1(v0 v1)",
			"(3) bind 0 to v1; bind 1 to v2; at 0; bind 0 to v0; mark 1; print v0; mark 2; v3 = 0; return v3"}},
		{"return g(7, b);", []string{
			"v2 = 7; call 1(v2 v1) 1(v0 v1)",
			"(3) bind 0 to v1; bind 1 to v2; at 0; return v0"}},
		{"b = f(1, b / a);", []string{
			"v2 = 1; branch v0 1(v0 v1 v2 v1 v0) 2(v0 v1)",
			"(5) bind 0 to v0; bind 1 to v1; at 0; v5 = v3 / v4; call 0(v2 v5) 3(v0 v1)",
			"(2) bind 0 to v0; bind 1 to v1; at 0; v2 = 1; throw v2",
			"(3) bind 0 to v1; bind 1 to v2; at 0; bind 1 to v0; mark 1; v3 = 0; return v3"}},
	} {
		c.want[0] = "(2) bind 0 to v0; bind 1 to v1; mark 0; " + c.want[0]
		expectCode(t, "P7.4", "func f(a, b) { "+c.statement+" }"+others, c.want...)
	}
}

// A target that is a field, which Check refuses, is the piece of the field.
func TestCallsForFields(t *testing.T) {
	const program = "record R { p, q } func f(a) { var r: R; r.q = a; a = f(r.p); print r.q; }"
	s := source(t, program)
	body := s.Program.Funcs[0].Body
	body[2].Target = body[1].Target
	expectFunction(t, "P7.4", s, 0,
		"(1) bind 0 to v0; mark 0; v1 = 0; bind 1 to v1; v2 = 0; bind 1.1 to v2; mark 1; v3 = copy v0; bind 1.1 to v3; mark 2; call 0(v1) 1(v0 v1 v3)",
		"(4) bind 0 to v1; bind 1 to v2; bind 1.1 to v3; at 2; bind 1.1 to v0; mark 3; print v0; mark 4; v4 = 0; return v4")
}

func TestIfs(t *testing.T) {
	const first = "(1) bind 0 to v0; mark 0; branch v0 1(v0) 2(v0)"
	for _, c := range []struct {
		statement string
		want      []string
	}{
		{"if a { print 1; }", []string{
			first,
			"(1) bind 0 to v0; mark 1; v1 = 1; print v1; jump 2(v0)",
			"(1) bind 0 to v0; mark 2; v1 = 0; return v1"}},
		{"if a { }", []string{
			first,
			"(1) bind 0 to v0; jump 2(v0)",
			"(1) bind 0 to v0; mark 1; v1 = 0; return v1"}},
		{"if a { return 1; }", []string{
			first,
			"(1) bind 0 to v0; mark 1; v1 = 1; return v1",
			"(1) bind 0 to v0; mark 2; v1 = 0; return v1"}},
		{"if a { a = 1; } else { a = 2; }", []string{
			first,
			"(1) bind 0 to v0; mark 1; v1 = 1; bind 0 to v1; jump 3(v1)",
			"(1) bind 0 to v0; mark 2; v1 = 2; bind 0 to v1; jump 3(v1)",
			"(1) bind 0 to v0; mark 3; v1 = 0; return v1"}},
		{"if a { } else { a = 2; }", []string{
			first,
			"(1) bind 0 to v0; jump 3(v0)",
			"(1) bind 0 to v0; mark 1; v1 = 2; bind 0 to v1; jump 3(v1)",
			"(1) bind 0 to v0; mark 2; v1 = 0; return v1"}},
		{"if a { throw 1; } else { a = 2; }", []string{
			first,
			"(1) bind 0 to v0; mark 1; v1 = 1; throw v1",
			"(1) bind 0 to v0; mark 2; v1 = 2; bind 0 to v1; jump 3(v1)",
			"(1) bind 0 to v0; mark 3; v1 = 0; return v1"}},
		{"if a { a = 1; } else { return 2; }", []string{
			first,
			"(1) bind 0 to v0; mark 1; v1 = 1; bind 0 to v1; jump 3(v1)",
			"(1) bind 0 to v0; mark 2; v1 = 2; return v1",
			"(1) bind 0 to v0; mark 3; v1 = 0; return v1"}},
		{"if a { return 1; } else { return 2; } a = 3; return 4;", []string{
			first,
			"(1) bind 0 to v0; mark 1; v1 = 1; return v1",
			"(1) bind 0 to v0; mark 2; v1 = 2; return v1"}},
		// Body is lowered ahead of Else, with what is in it.
		{"if a { if 1 { a = 2; } } else { if 3 { a = 4; } else { a = 5; } }", []string{
			first,
			"(1) bind 0 to v0; mark 1; v1 = 1; branch v1 3(v0) 4(v0)",
			"(1) bind 0 to v0; mark 3; v1 = 3; branch v1 6(v0) 7(v0)",
			"(1) bind 0 to v0; mark 2; v1 = 2; bind 0 to v1; jump 4(v1)",
			"(1) bind 0 to v0; jump 5(v0)",
			"(1) bind 0 to v0; mark 6; v1 = 0; return v1",
			"(1) bind 0 to v0; mark 4; v1 = 4; bind 0 to v1; jump 8(v1)",
			"(1) bind 0 to v0; mark 5; v1 = 5; bind 0 to v1; jump 8(v1)",
			"(1) bind 0 to v0; jump 5(v0)"}},
		// Nothing follows the inner one, so its list ends, and one edge leads to the block behind the outer one.
		{"if a { if 1 { return 2; } else { return 3; } a = 4; } print 5;", []string{
			first,
			"(1) bind 0 to v0; mark 1; v1 = 1; branch v1 3(v0) 4(v0)",
			"(1) bind 0 to v0; mark 5; v1 = 5; print v1; mark 6; v2 = 0; return v2",
			"(1) bind 0 to v0; mark 2; v1 = 2; return v1",
			"(1) bind 0 to v0; mark 3; v1 = 3; return v1"}},
	} {
		expectCode(t, "P7.4", "func f(a) { "+c.statement+" }", c.want...)
	}
	// What the condition needs stands ahead of the branch, and the parts begin with a Mark of their own, without an At.
	expectCode(t, "P7.4", "func f(a, b) { if a / b < 3 { b = 4; } }",
		"(2) bind 0 to v0; bind 1 to v1; mark 0; branch v1 1(v0 v1 v0 v1) 2(v0 v1)",
		"(4) bind 0 to v0; bind 1 to v1; at 0; v4 = v2 / v3; v5 = 3; v6 = v4 < v5; branch v6 3(v0 v1) 4(v0 v1)",
		"(2) bind 0 to v0; bind 1 to v1; at 0; v2 = 1; throw v2",
		"(2) bind 0 to v0; bind 1 to v1; mark 1; v2 = 4; bind 1 to v2; jump 4(v0 v2)",
		"(2) bind 0 to v0; bind 1 to v1; mark 2; v2 = 0; return v2")
}

func TestWhiles(t *testing.T) {
	for _, c := range []struct {
		statement string
		want      []string
	}{
		{"while a { }", []string{
			"jump 1(v0)",
			"(1) bind 0 to v0; mark 0; branch v0 2(v0) 3(v0)",
			"(1) bind 0 to v0; jump 1(v0)",
			"(1) bind 0 to v0; mark 1; v1 = 0; return v1"}},
		{"while a { a = a - 1; }", []string{
			"jump 1(v0)",
			"(1) bind 0 to v0; mark 0; branch v0 2(v0) 3(v0)",
			"(1) bind 0 to v0; mark 1; v1 = 1; v2 = v0 - v1; bind 0 to v2; jump 1(v2)",
			"(1) bind 0 to v0; mark 2; v1 = 0; return v1"}},
		{"while a { return 2; }", []string{
			"jump 1(v0)",
			"(1) bind 0 to v0; mark 0; branch v0 2(v0) 3(v0)",
			"(1) bind 0 to v0; mark 1; v1 = 2; return v1",
			"(1) bind 0 to v0; mark 2; v1 = 0; return v1"}},
		// The block behind the statement is lowered whatever the condition is.
		{"while 1 { throw 2; print 3; } print 4;", []string{
			"jump 1(v0)",
			"(1) bind 0 to v0; mark 0; v1 = 1; branch v1 2(v0) 3(v0)",
			"(1) bind 0 to v0; mark 1; v1 = 2; throw v1",
			"(1) bind 0 to v0; mark 3; v1 = 4; print v1; mark 4; v2 = 0; return v2"}},
		{"print 5; while a < 9 { print 6; }", []string{
			"mark 0; v1 = 5; print v1; jump 1(v0)",
			"(1) bind 0 to v0; mark 1; v1 = 9; v2 = v0 < v1; branch v2 2(v0) 3(v0)",
			"(1) bind 0 to v0; mark 2; v1 = 6; print v1; jump 1(v0)",
			"(1) bind 0 to v0; mark 3; v1 = 0; return v1"}},
		// The condition splits the header; Body leads to the header, not to the block that continues.
		{"while 5 % a { a = 1; }", []string{
			"jump 1(v0)",
			"(1) bind 0 to v0; mark 0; v1 = 5; branch v0 2(v0 v1 v0) 3(v0)",
			"(3) bind 0 to v0; at 0; v3 = v1 % v2; branch v3 4(v0) 5(v0)",
			"(1) bind 0 to v0; at 0; v1 = 1; throw v1",
			"(1) bind 0 to v0; mark 1; v1 = 1; bind 0 to v1; jump 1(v1)",
			"(1) bind 0 to v0; mark 2; v1 = 0; return v1"}},
		{"while a { while 1 { a = 2; } }", []string{
			"jump 1(v0)",
			"(1) bind 0 to v0; mark 0; branch v0 2(v0) 3(v0)",
			"(1) bind 0 to v0; jump 4(v0)",
			"(1) bind 0 to v0; mark 3; v1 = 0; return v1",
			"(1) bind 0 to v0; mark 1; v1 = 1; branch v1 5(v0) 6(v0)",
			"(1) bind 0 to v0; mark 2; v1 = 2; bind 0 to v1; jump 4(v1)",
			"(1) bind 0 to v0; jump 1(v0)"}},
		{"while a { if a { return 1; } else { throw 2; } a = 3; }", []string{
			"jump 1(v0)",
			"(1) bind 0 to v0; mark 0; branch v0 2(v0) 3(v0)",
			"(1) bind 0 to v0; mark 1; branch v0 4(v0) 5(v0)",
			"(1) bind 0 to v0; mark 5; v1 = 0; return v1",
			"(1) bind 0 to v0; mark 2; v1 = 1; return v1",
			"(1) bind 0 to v0; mark 3; v1 = 2; throw v1"}},
	} {
		c.want[0] = "(1) bind 0 to v0; " + c.want[0]
		expectCode(t, "P7.4", "func f(a) { "+c.statement+" }", c.want...)
	}
}
