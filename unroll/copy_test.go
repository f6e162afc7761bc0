package unroll

import "testing"

// The edges to the block lead to the copy, and those of the copy to the block; all others stay as they are.
func TestCopies(t *testing.T) {
	// The first edge, the second one, and both.
	expectUnrolled(t,
		lines("(1) jump 1(v0)", "(1) v1 = 2; v2 = v0 - v1; branch v2 1(v2) 2(v1)", "(1) return v0"),
		lines("(1) jump 1(v0)", "(1) v1 = 2; v2 = v0 - v1; branch v2 3(v2) 2(v1)", "(1) return v0", "(1) v1 = 2; v2 = v0 - v1; branch v2 1(v2) 2(v1)"))
	expectUnrolled(t,
		lines("(1) jump 1(v0)", "(1) v1 = 2; v2 = v0 - v1; branch v2 2(v1) 1(v2)", "(1) return v0"),
		lines("(1) jump 1(v0)", "(1) v1 = 2; v2 = v0 - v1; branch v2 2(v1) 3(v2)", "(1) return v0", "(1) v1 = 2; v2 = v0 - v1; branch v2 2(v1) 1(v2)"))
	expectUnrolled(t,
		lines("(2) jump 1(v0 v1)", "(2) v2 = 2; branch v0 1(v1 v2) 1(v2 v0)"),
		lines("(2) jump 1(v0 v1)", "(2) v2 = 2; branch v0 2(v1 v2) 2(v2 v0)", "(2) v2 = 2; branch v0 1(v1 v2) 1(v2 v0)"))
	// A block without parameters and operations can branch on nothing; one without parameters can.
	expectUnrolled(t,
		lines("(1) jump 1()", "(0) v5 = 2; mark 1; branch v5 1() 2(v5)", "(1) return v0"),
		lines("(1) jump 1()", "(0) v5 = 2; mark 1; branch v5 3() 2(v5)", "(1) return v0", "(0) v5 = 2; mark 1; branch v5 1() 2(v5)"))
}

// The copy has all operations with all their fields.
func TestOperationsOfTheCopy(t *testing.T) {
	head := "object 0 0 2\nobject 1 1 3\ncontext 0 1 0\n"
	all := "(3) bind 0 to v0; bind 1.2 in 1 to v9 + -4; bind 2 to nowhere; bind 3 to constant + 5; bind 4.1 to entry 1 + 6; mark 7 in 1; v9 = -3; v4 = load 1 v2; v6 = v9 <= v4; v5 = copy v6; store 0 v1 v5; zero 1; print v9; at 8; "
	expectUnrolled(t,
		head+lines("(2) jump 1(v0 v1 v0)", all+"branch v6 1(v4 v9 v6) 1(v0 v1 v2)"),
		head+lines("(2) jump 1(v0 v1 v0)", all+"branch v6 2(v4 v9 v6) 2(v0 v1 v2)", all+"branch v6 1(v4 v9 v6) 1(v0 v1 v2)"))
}

// Edges of other blocks lead to where they led, and several blocks are unrolled in their order; copies are not.
func TestSeveralLoops(t *testing.T) {
	expectUnrolled(t,
		lines("(1) branch v0 2(v0) 3()", "(1) mark 1; branch v0 2(v0) 3()", "(1) mark 2; branch v0 2(v0) 1(v0)", "(0) v0 = 3; branch v0 4(v0) 3()", "(1) mark 4; branch v0 4(v0) 4(v0)"),
		lines("(1) branch v0 2(v0) 3()", "(1) mark 1; branch v0 2(v0) 3()", "(1) mark 2; branch v0 5(v0) 1(v0)", "(0) v0 = 3; branch v0 4(v0) 6()", "(1) mark 4; branch v0 7(v0) 7(v0)",
			"(1) mark 2; branch v0 2(v0) 1(v0)", "(0) v0 = 3; branch v0 4(v0) 3()", "(1) mark 4; branch v0 4(v0) 4(v0)"))
}

// Only blocks that end with a branch are unrolled, and loops of two blocks are not.
func TestOtherLoops(t *testing.T) {
	for _, text := range []string{
		lines("(1) jump 1(v0)", "(1) jump 1(v0)"),
		lines("(1) jump 1(v0)", "(1) call 0(v0) 1()"),
		lines("(1) jump 1(v0)", "(1) call 0(v0) 1() 1()"),
		lines("(1) jump 1(v0)", "(1) branch v0 2(v0) 2(v0)", "(1) branch v0 1(v0) 1(v0)"),
		lines("(1) branch v0 1(v0) 2()", "(1) tail 1(v0)", "(0) tail 1()"),
	} {
		expectKept(t, "P12.3", text)
	}
}

// Blocks that branch to themselves because they were turned are unrolled as well.
func TestTurnedLoops(t *testing.T) {
	expectUnrolled(t,
		lines("(1) jump 1(v0)", "(1) mark 1; branch v0 3(v0) 2(v0)", "(1) return v0", "(1) mark 3; v1 = v0 - v0; jump 1(v1)"),
		lines("(1) jump 1(v0)", "(1) mark 1; branch v0 3(v0) 2(v0)", "(1) return v0", "(1) mark 3; v1 = v0 - v0; mark 1; branch v1 4(v1) 2(v1)",
			"(1) mark 3; v1 = v0 - v0; mark 1; branch v1 3(v1) 2(v1)"))
	// A block that does so already is the head of another one.
	expectUnrolled(t,
		lines("(1) jump 1(v0)", "(1) mark 1; branch v0 1(v0) 2(v0)", "(1) mark 2; jump 1(v0)"),
		lines("(1) jump 1(v0)", "(1) mark 1; branch v0 3(v0) 2(v0)", "(1) mark 2; mark 1; branch v0 1(v0) 4(v0)", "(1) mark 1; branch v0 1(v0) 2(v0)", "(1) mark 2; mark 1; branch v0 1(v0) 2(v0)"))
}
