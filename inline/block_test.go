package inline

import "testing"

// The values that the operations of the leaf define get numbers behind those of the passed values, wherever they are used; the parameters stay.
func TestNumbers(t *testing.T) {
	expectInlined(t, "P11.3",
		lines("context 0 5 1", "object 0 1 4", "object 0 2 2", "object 1 5 3", "object 1 1 1",
			"(2) mark 5; jump 2(v1 v0 v0 v1)",
			"(3) return v2",
			"(4) v5 = 7; v12 = copy v0; v6 = v1 - v12; v7 = v5 <= v0; v8 = load 3 v6; v9 = load 2 v1; store 2 v5 v1; store 3 v0 v7; zero 3; zero 2; print v1; print v8; branch v6 3(v7 v1 v2 v3) 4(v0 v2 v3)",
			"(4) bind 0 in 1 to v0; bind 1.2 in 1 to v5 + 3; bind 2 in 1 to constant + 4; bind 3 in 1 to nowhere; mark 6 in 1; v5 = copy v1; at 7 in 1; jump 1(v5 v2 v3)",
			"(3) jump 1(v0 v1 v2)"),
		lines("object 0 1 4", "object 0 2 2",
			"(2) mark 5; call 1(v1 v0) 1(v0 v1)",
			"(3) return v2"),
		lines("object 0 5 3", "object 0 1 1",
			"(2) v3 = 7; v10 = copy v0; v4 = v1 - v10; v5 = v3 <= v0; v6 = load 1 v4; v7 = load 0 v1; store 0 v3 v1; store 1 v0 v5; zero 1; zero 0; print v1; print v6; branch v4 1(v5 v1) 2(v0)",
			"(2) bind 0 to v0; bind 1.2 to v3 + 3; bind 2 to constant + 4; bind 3 to nowhere; mark 6; v3 = copy v1; at 7; return v3",
			"(1) return v0"))
}

// Without passed values and bindings the leaf's blocks stay as they are but for their ends.
func TestNothingPassed(t *testing.T) {
	expectInlined(t, "P11.3",
		lines("context 0 5 1", "(0) mark 5; jump 2()", "(1) return v0", "(0) jump 3()", "(0) v0 = 3; jump 1(v0)"),
		lines("(0) mark 5; call 1() 1()", "(1) return v0"),
		lines("(0) jump 1()", "(0) v0 = 3; return v0"))
}

// Loops within the leaf carry the passed values round, and the arguments stay ahead of them.
func TestLoops(t *testing.T) {
	expectInlined(t, "P11.3",
		lines("context 0 5 1",
			"(3) bind 0 to v2 + 1; mark 5; jump 2(v0 v1 v2)",
			"(2) return v1",
			"(3) bind 0 to v2 + 1; v3 = 0; jump 3(v0 v3 v1 v2)",
			"(4) bind 0 to v3 + 1; mark 1 in 1; v4 = 1; v5 = v0 - v4; branch v5 3(v5 v4 v2 v3) 4(v1 v2 v3)",
			"(3) bind 0 to v2 + 1; jump 1(v0 v1)"),
		lines("(3) bind 0 to v2 + 1; mark 5; call 1(v0) 1(v1)",
			"(2) return v1"),
		lines("(1) v1 = 0; jump 1(v0 v1)",
			"(2) mark 1; v2 = 1; v3 = v0 - v2; branch v3 1(v3 v2) 2(v1)",
			"(1) return v0"))
}

// Both edges of a branch may lead to the same block, with other arguments.
func TestBranches(t *testing.T) {
	expectInlined(t, "P11.3",
		lines("context 0 5 1",
			"(2) mark 5; jump 2(v0 v1)", "(2) return v0",
			"(2) branch v0 3(v0 v1) 3(v0 v1)",
			"(2) v2 = 4; branch v2 4(v1) 5(v0 v1)",
			"(1) v1 = 2; jump 1(v1 v0)",
			"(2) jump 1(v0 v1)"),
		lines("(2) mark 5; call 1(v0) 1(v1)", "(2) return v0"),
		lines("(1) branch v0 1(v0) 1(v0)", "(1) v1 = 4; branch v1 2() 3(v0)", "(0) v0 = 2; return v0", "(1) return v0"))
}

// A result and a thrown value come ahead of what the edges of the call have for the other parameters.
func TestEnds(t *testing.T) {
	leaf := lines("(1) v1 = 3; branch v0 1(v0 v1) 2(v1)", "(2) v2 = v0 + v1; return v2", "(1) throw v0")
	expectInlined(t, "P11.3",
		lines("context 0 5 1",
			"(3) mark 5; v3 = 6; jump 3(v0 v2 v3 v1)", "(5) return v1", "(2) throw v1",
			"(4) v4 = 3; branch v0 4(v0 v4 v1 v2 v3) 5(v4 v1 v2 v3)",
			"(5) v5 = v0 + v1; jump 1(v5 v2 v3 v2 v3)",
			"(4) jump 2(v0 v3)"),
		lines("(3) mark 5; v3 = 6; call 1(v0) 1(v2 v3 v2 v3) 2(v1)", "(5) return v1", "(2) throw v1"),
		leaf)
	// Without a second edge the value is thrown by the function.
	expectInlined(t, "P11.3",
		lines("context 0 5 1",
			"(3) mark 5; jump 2(v0 v2)", "(2) return v1",
			"(2) v2 = 3; branch v0 3(v0 v2 v1) 4(v2 v1)",
			"(3) v3 = v0 + v1; jump 1(v3 v2)",
			"(2) throw v0"),
		lines("(3) mark 5; call 1(v0) 1(v2)", "(2) return v1"),
		leaf)
	// A value that is thrown may have been defined in the same block.
	expectInlined(t, "P11.3",
		lines("context 0 5 1", "(2) mark 5; jump 2(v0 v1)", "(2) return v1", "(2) v2 = 4; throw v2"),
		lines("(2) mark 5; call 1(v0) 1(v1)", "(2) return v1"),
		"(1) v1 = 4; throw v1")
	// Without arguments there is the result alone, or the thrown value.
	expectInlined(t, "P11.3",
		lines("context 0 5 1", "(3) mark 5; jump 2(v0)", rest, "(1) v1 = 3; branch v0 3(v0 v1) 4(v1)", "(2) v2 = v0 + v1; jump 1(v2)", "(1) jump 1(v0)"),
		lines("(3) mark 5; call 1(v0) 1() 1()", rest),
		leaf)
}

// The context of the position is the parent of the new one, which has all that is in the leaf's own context.
func TestContexts(t *testing.T) {
	expectInlined(t, "P11.3",
		lines("context 0 3 1", "context 1 4 1", "context 1 6 1", "object 2 0 1", "object 3 2 3",
			"(2) bind 0 to v0; bind 1 in 2 to v1; mark 6 in 1; bind 0 in 1 to v0; jump 2(v1 v0 v0 v1)",
			"(1) mark 2; return v0",
			"(4) bind 0 to v2; bind 1 in 2 to v3; bind 2 in 3 to v0; mark 6 in 3; zero 1; at 3 in 3; jump 1(v1)"),
		lines("context 0 3 1", "context 1 4 1", "object 2 0 1",
			"(2) bind 0 to v0; bind 1 in 2 to v1; mark 6 in 1; bind 0 in 1 to v0; call 1(v1 v0) 1()",
			"(1) mark 2; return v0"),
		lines("object 0 2 3", "(2) bind 2 to v0; mark 6; zero 0; at 3; return v1"))
}
