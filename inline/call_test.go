package inline

import "testing"

// A call is replaced if its own block has a Mark or At, wherever that is.
func TestPositions(t *testing.T) {
	rest := "(1) return v0"
	for about, c := range map[string]struct{ from, want string }{
		"none": {
			lines("(1) print v0; bind 0 to v0; call 1(v0) 1()", rest),
			lines("(1) print v0; bind 0 to v0; call 1(v0) 1()", rest)},
		"none in this block": {
			lines("(1) mark 3; at 4; jump 1(v0)", "(1) call 1(v0) 2()", "(1) mark 3; return v0"),
			lines("(1) mark 3; at 4; jump 1(v0)", "(1) call 1(v0) 2()", "(1) mark 3; return v0")},
		"a Mark": {
			lines("(1) mark 3; call 1(v0) 1()", rest),
			lines("context 0 3 1", "(1) mark 3; jump 2(v0)", rest, "(1) v1 = 1; v2 = v0 + v1; jump 1(v2)")},
		"an At": {
			lines("(1) at 3; print v0; call 1(v0) 1()", rest),
			lines("context 0 3 1", "(1) at 3; print v0; jump 2(v0)", rest, "(1) v1 = 1; v2 = v0 + v1; jump 1(v2)")},
		"a Mark of the statement 0": {
			lines("(1) mark 0; call 1(v0) 1()", rest),
			lines("context 0 0 1", "(1) mark 0; jump 2(v0)", rest, "(1) v1 = 1; v2 = v0 + v1; jump 1(v2)")},
		"an At behind Marks": {
			lines("(1) mark 3; mark 5; at 4; print v0; call 1(v0) 1()", rest),
			lines("context 0 4 1", "(1) mark 3; mark 5; at 4; print v0; jump 2(v0)", rest, "(1) v1 = 1; v2 = v0 + v1; jump 1(v2)")},
		"a Mark behind Ats": {
			lines("(1) at 9999; at 2; mark 8; call 1(v0) 1()", rest),
			lines("context 0 8 1", "(1) at 9999; at 2; mark 8; jump 2(v0)", rest, "(1) v1 = 1; v2 = v0 + v1; jump 1(v2)")},
		"a context": {
			lines("context 0 3 1", "context 1 3 0", "(1) at 3; at 9999 in 2; call 1(v0) 1()", rest),
			lines("context 0 3 1", "context 1 3 0", "context 2 9999 1", "(1) at 3; at 9999 in 2; jump 2(v0)", rest, "(1) v1 = 1; v2 = v0 + v1; jump 1(v2)")},
	} {
		expectInlined(t, "P11.1, P11.2: "+about, c.want, c.from, next)
	}
}

// Each call has its own context, objects and blocks, in the order of the calls.
func TestSeveral(t *testing.T) {
	table := lines("object 0 4 2", "object 0 2 3", "(1) zero 1; mark 3; v1 = load 0 v0; jump 1(v1)", "(1) bind 4 to v0; mark 6; return v0")
	expectInlined(t, "P11.3",
		lines("context 0 5 2", "context 0 6 1", "context 0 7 2", "object 0 1 4", "object 1 4 2", "object 1 2 3", "object 3 4 2", "object 3 2 3",
			"(1) mark 5; jump 4(v0)",
			"(1) mark 6; jump 6(v0)",
			"(1) at 7; jump 7(v0)",
			"(1) store 0 v0 v0; return v0",
			"(1) zero 2; mark 3 in 1; v1 = load 1 v0; jump 5(v1)",
			"(1) bind 4 in 1 to v0; mark 6 in 1; jump 1(v0)",
			"(1) v1 = 1; v2 = v0 + v1; jump 2(v2)",
			"(1) zero 4; mark 3 in 3; v1 = load 3 v0; jump 8(v1)",
			"(1) bind 4 in 3 to v0; mark 6 in 3; jump 3(v0)"),
		lines("object 0 1 4",
			"(1) mark 5; call 2(v0) 1()",
			"(1) mark 6; call 1(v0) 2()",
			"(1) at 7; call 2(v0) 3()",
			"(1) store 0 v0 v0; return v0"),
		next, table)
}

// A call may be in a loop, lead to its own block, or never be reached.
func TestOrder(t *testing.T) {
	expectInlined(t, "P11.1",
		lines("context 0 1 1", "context 0 2 1",
			"(1) jump 2(v0)",
			"(1) mark 1; jump 4(v0)",
			"(1) mark 2; jump 5(v0)",
			"(1) return v0",
			"(1) v1 = 1; v2 = v0 + v1; jump 3(v2)",
			"(1) v1 = 1; v2 = v0 + v1; jump 2(v2)"),
		lines("(1) jump 2(v0)",
			"(1) mark 1; call 1(v0) 3()",
			"(1) mark 2; call 1(v0) 2()",
			"(1) return v0"),
		next)
}

// The added blocks, which have Marks, end as the leaf does.
func TestAddedBlocks(t *testing.T) {
	expectInlined(t, "P11.1",
		lines("context 0 1 1", "(1) mark 1; jump 2(v0)", "(1) return v0",
			"(1) mark 4 in 1; branch v0 3(v0) 4()", "(1) mark 5 in 1; jump 1(v0)", "(0) mark 6 in 1; v0 = 3; throw v0"),
		lines("(1) mark 1; call 1(v0) 1()", "(1) return v0"),
		lines("(1) mark 4; branch v0 1(v0) 2()", "(1) mark 5; return v0", "(0) mark 6; v0 = 3; throw v0"))
}
