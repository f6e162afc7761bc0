package merge

import (
	"testing"

	"debugger/passes"
)

func TestRefused(t *testing.T) { passes.ExpectRefused(t, "P9.1", Merge) }

func TestExample(t *testing.T) {
	expectMerged(t,
		lines("(1) v1 = v0 + v0; jump 1(v1)", "(1) v1 = v0 * v0; return v1"),
		"(1) v1 = v0 + v0; v2 = v1 * v1; return v2")
}

// Every other edge that leads to the block of a jump keeps it apart, also one of a block that no edge leads to.
func TestOtherEdges(t *testing.T) {
	for _, text := range []string{
		// of a jump
		lines("(1) branch v0 1(v0) 2()", "(1) jump 3(v0)", "(0) v0 = 5; jump 3(v0)", "(1) return v0"),
		lines("(1) jump 1(v0)", "(1) return v0", "(1) jump 1(v0)"),
		lines("(1) jump 2(v0)", "(1) jump 2(v0)", "(1) return v0"),
		// of either edge of a branch
		lines("(1) branch v0 1() 2(v0)", "(0) v0 = 5; jump 2(v0)", "(1) return v0"),
		lines("(1) branch v0 2(v0) 1()", "(0) v0 = 5; jump 2(v0)", "(1) return v0"),
		lines("(1) jump 1(v0)", "(1) branch v0 1(v0) 2(v0)", "(1) return v0"),
		lines("(1) jump 1(v0)", "(1) branch v0 2(v0) 1(v0)", "(1) return v0"),
		// of either edge of a call
		lines("(1) call 0(v0) 2() 1()", "(1) jump 2(v0)", "(1) return v0"),
		lines("(1) call 0(v0) 1() 2()", "(1) jump 2(v0)", "(1) return v0"),
		lines("(1) call 0(v0) 2()", "(1) jump 2(v0)", "(1) return v0"),
		// of several
		lines("(1) branch v0 1() 1()", "(0) v0 = 5; jump 2(v0)", "(1) branch v0 2(v0) 2(v0)"),
	} {
		expectKept(t, text)
	}
}

// The only edge that leads to a block has to be that of a jump.
func TestOtherTerminators(t *testing.T) {
	for _, text := range []string{
		"(1) return v0",
		"(1) throw v0",
		"(1) tail 1(v0)",
		lines("(1) branch v0 1() 2(v0)", "(0) v0 = 5; return v0", "(1) throw v0"),
		lines("(1) branch v0 1() 1()", "(0) v0 = 5; return v0"),
		lines("(1) branch v0 1(v0) 1(v0)", "(1) tail 2(v0)"),
		lines("(1) call 0(v0) 1()", "(1) return v0"),
		lines("(1) call 0(v0) 1() 2()", "(1) return v0", "(1) throw v0"),
		lines("(1) call 0(v0) 1() 1()", "(1) return v0"),
		lines("(0) call 0() 1()", "(1) call 0() 2(v0) 3()", "(2) return v1", "(1) branch v0 4() 5(v0)", "(0) tail 0()", "(1) return v0"),
	} {
		expectKept(t, text)
	}
}

func TestJumpToItself(t *testing.T) {
	expectKept(t, lines("(1) return v0", "(0) jump 1()"))
	expectKept(t, lines("(0) jump 1()", "(0) jump 1()"))
	expectKept(t, lines("(2) v2 = v0 + v1; jump 1(v2 v0)", "(2) v2 = v0 + v1; jump 1(v2 v0)"))
}

// A block may be joined to one with a higher and with a lower number.
func TestDirections(t *testing.T) {
	expectMerged(t,
		lines("(1) branch v0 1() 2()", "(0) v0 = 5; jump 3(v0)", "(0) v0 = 6; return v0", "(1) v1 = v0 + v0; throw v1"),
		lines("(1) branch v0 1() 2()", "(0) v0 = 5; v1 = v0 + v0; throw v1", "(0) v0 = 6; return v0"))
	expectMerged(t,
		lines("(1) branch v0 3() 2()", "(1) v1 = v0 + v0; throw v1", "(0) v0 = 6; return v0", "(0) v0 = 5; jump 1(v0)"),
		lines("(1) branch v0 2() 1()", "(0) v0 = 6; return v0", "(0) v0 = 5; v1 = v0 + v0; throw v1"))
}

// A loop of two blocks becomes a block that jumps to itself.
func TestLoops(t *testing.T) {
	expectMerged(t,
		lines("(1) v1 = 1; jump 1(v0 v1)", "(2) v2 = v0 + v1; jump 2(v2 v1)", "(2) v2 = v1 * v0; print v2; jump 1(v0 v2)"),
		lines("(1) v1 = 1; jump 1(v0 v1)", "(2) v2 = v0 + v1; v3 = v1 * v2; print v3; jump 1(v2 v3)"))
	expectMerged(t,
		lines("(1) v1 = 1; jump 2(v0 v1)", "(2) v2 = v1 * v0; print v2; jump 2(v0 v2)", "(2) v2 = v0 + v1; jump 1(v2 v1)"),
		lines("(1) v1 = 1; jump 1(v0 v1)", "(2) v2 = v0 + v1; v3 = v1 * v2; print v3; jump 1(v2 v3)"))
	// The body of a loop with a test ends with the test's terminator.
	expectMerged(t,
		lines("(1) jump 1(v0)", "(1) branch v0 2(v0) 3(v0)", "(1) v1 = 1; v2 = v0 - v1; jump 4(v2)", "(1) return v0", "(1) print v0; jump 1(v0)"),
		lines("(1) jump 1(v0)", "(1) branch v0 2(v0) 3(v0)", "(1) v1 = 1; v2 = v0 - v1; print v2; jump 1(v2)", "(1) return v0"))
}

func TestChains(t *testing.T) {
	want := "(1) v1 = 1; v2 = 2; v3 = v1 + v2; v4 = v3 - v2; return v4"
	expectMerged(t, lines("(1) v1 = 1; jump 1(v1)", "(1) v1 = 2; v2 = v0 + v1; jump 2(v2 v1)", "(2) v2 = v0 - v1; jump 3(v2)", "(1) return v0"), want)
	expectMerged(t, lines("(1) v1 = 1; jump 3(v1)", "(1) return v0", "(2) v2 = v0 - v1; jump 1(v2)", "(1) v1 = 2; v2 = v0 + v1; jump 2(v2 v1)"), want)
	expectMerged(t, lines("(1) v1 = 1; jump 2(v1)", "(2) v2 = v0 - v1; jump 3(v2)", "(1) v1 = 2; v2 = v0 + v1; jump 1(v2 v1)", "(1) return v0"), want)
	// Two chains that cross each other.
	expectMerged(t,
		lines("(1) branch v0 4() 1()", "(0) v0 = 1; jump 3(v0)", "(1) v1 = v0 + v0; return v1", "(1) v1 = v0 * v0; jump 6(v1)", "(0) v0 = 7; jump 5(v0)", "(1) v1 = v0 - v0; jump 2(v1)", "(1) throw v0"),
		lines("(1) branch v0 2() 1()", "(0) v0 = 1; v1 = v0 * v0; throw v1", "(0) v0 = 7; v1 = v0 - v0; v2 = v1 + v1; return v2"))
}

// The lowest block comes first: the numbers that it uses up may be missing for another join.
func TestOrder(t *testing.T) {
	expectMerged(t,
		lines("(1) branch v0 3() 4()", "(1) v1 = v0 + v0; jump 2(v1)", "(1) v1 = v0 * v0; return v1", "(0) v9998 = 7; jump 1(v9998)", "(0) v0 = 1; return v0"),
		lines("(1) branch v0 2() 3()", "(1) v1 = v0 + v0; v2 = v1 * v1; return v2", "(0) v9998 = 7; jump 1(v9998)", "(0) v0 = 1; return v0"))
	expectMerged(t,
		lines("(1) branch v0 1() 4()", "(0) v9998 = 7; jump 3(v9998)", "(1) v1 = v0 * v0; return v1", "(1) v1 = v0 + v0; jump 2(v1)", "(0) v0 = 1; return v0"),
		lines("(1) branch v0 1() 3()", "(0) v9998 = 7; v9999 = v9998 + v9998; jump 2(v9999)", "(1) v1 = v0 * v0; return v1", "(0) v0 = 1; return v0"))
	// In a circle that no edge leads to, the lowest block is the first one of the joined block.
	expectMerged(t,
		lines("(1) return v0", "(1) v1 = 1; jump 2(v1)", "(1) v1 = 2; v2 = v0 + v1; jump 3(v2)", "(1) v1 = 3; jump 1(v0)"),
		lines("(1) return v0", "(1) v1 = 1; v2 = 2; v3 = v1 + v2; v4 = 3; jump 1(v3)"))
	expectMerged(t,
		lines("(1) return v0", "(1) v1 = 3; jump 3(v0)", "(1) v1 = 2; v2 = v0 + v1; jump 1(v2)", "(1) v1 = 1; jump 2(v1)"),
		lines("(1) return v0", "(1) v1 = 3; v2 = 1; v3 = 2; v4 = v2 + v3; jump 1(v4)"))
	// There only the join of the greater block with the lower one has numbers left.
	expectMerged(t,
		lines("(1) return v0", "(1) v1 = 4; v9999 = 1; jump 2(v1)", "(1) v9998 = 2; jump 1(v9998)"),
		lines("(1) return v0", "(1) v1 = 4; v9999 = 1; jump 2(v1)", "(1) v9998 = 2; jump 1(v9998)"))
	expectMerged(t,
		lines("(1) return v0", "(1) v1 = 4; v9999 = 1; jump 2(v1)", "(1) v9997 = 2; jump 1(v9997)"),
		lines("(1) return v0", "(1) v9997 = 2; v9998 = 4; v9999 = 1; jump 1(v9998)"))
}

// Blocks that no edge leads to are joined as others are, and their edges count.
func TestUnreached(t *testing.T) {
	expectMerged(t,
		lines("(1) return v0", "(0) v0 = 1; jump 2(v0)", "(1) print v0; jump 3()", "(0) v0 = 2; return v0"),
		lines("(1) return v0", "(0) v0 = 1; print v0; v1 = 2; return v1"))
	expectKept(t, lines("(1) branch v0 1(v0) 3(v0)", "(1) return v0", "(0) v0 = 1; jump 1(v0)", "(1) throw v0"))
	expectMerged(t,
		lines("(1) jump 3(v0)", "(1) return v0", "(0) v0 = 1; jump 4(v0)", "(1) jump 1(v0)", "(1) jump 1(v0)"),
		lines("(1) jump 1(v0)", "(1) return v0", "(0) v0 = 1; jump 1(v0)"))
	expectMerged(t,
		lines("(0) v0 = 6; tail 1(v0)", "(2) return v1", "(1) branch v0 2(v0) 4(v0)", "(0) jump 5()", "(1) jump 1(v0 v0)", "(0) v0 = 3; throw v0"),
		lines("(0) v0 = 6; tail 1(v0)", "(1) branch v0 1(v0) 3(v0)", "(0) v0 = 3; throw v0", "(1) return v0"))
}

// Blocks behind the one that is removed move up, and edges that lead nowhere stay.
func TestEdges(t *testing.T) {
	expectMerged(t,
		lines("(1) branch v0 1(v0) 3(v0)", "(1) jump 2(v0)", "(1) call 1(v0) 4() 3()", "(1) call 2() 4()", "(1) branch v0 5() 3(v0)", "(0) v0 = 1; tail 3()"),
		lines("(1) branch v0 1(v0) 2(v0)", "(1) call 1(v0) 3() 2()", "(1) call 2() 3()", "(1) branch v0 4() 2(v0)", "(0) v0 = 1; tail 3()"))
	expectMerged(t,
		lines("(1) branch v0 3(v0) 4(v0)", "(1) branch v0 2() 4(v0)", "(0) v0 = 7; call 1() 4()", "(1) jump 1(v0)", "(1) throw v0"),
		lines("(1) branch v0 2(v0) 3(v0)", "(0) v0 = 7; call 1() 3()", "(1) branch v0 1() 3(v0)", "(1) throw v0"))
	expectMerged(t,
		lines("(1) branch v0 2() 4(v0)", "(1) branch v0 4(v0) 5(v0)", "(0) v0 = 9; jump 1(v0)", "(1) jump 5(v0)", "(1) jump 5(v0)", "(1) return v0"),
		lines("(1) branch v0 1() 3(v0)", "(0) v0 = 9; branch v0 3(v0) 4(v0)", "(1) jump 4(v0)", "(1) jump 4(v0)", "(1) return v0"))
}

// The parameters of the function, its contexts and its objects stay as they are.
func TestTheRest(t *testing.T) {
	head := lines("func 3", "context 0 9 2", "context 1 4 3", "object 0 1 2", "object 2 1 8", "")
	expectMerged(t,
		head+lines("(3) store 1 v2 v0; mark 9 in 2; jump 1(v2)", "(1) v1 = load 0 v0; at 3 in 1; return v1"),
		head+"(3) store 1 v2 v0; mark 9 in 2; v3 = load 0 v2; at 3 in 1; return v3")
}

func TestLargest(t *testing.T) {
	c := passes.Largest(t)
	got := passes.Result(t, "P9.1", Merge, c)
	if len(got.Blocks) != len(c.Blocks)-1 || len(got.Blocks[1].Ops) != 6 || len(got.Blocks[0].Ops) != len(c.Blocks[0].Ops) {
		t.Errorf("P9.1: %d blocks, %d operations in block 0 and %d in block 1", len(got.Blocks), len(got.Blocks[0].Ops), len(got.Blocks[1].Ops))
	}
}
