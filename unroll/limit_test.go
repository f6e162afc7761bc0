package unroll

import (
	"fmt"
	"testing"

	"debugger/api"
	"debugger/operation"
	"debugger/passes"
)

// filled returns a code, as a text, with so many operations and blocks; those that are added are not reached.
func filled(t *testing.T, text string, ops, blocks int) api.Code {
	t.Helper()
	c := passes.Parse(t, text)
	for len(c.Blocks) < blocks {
		c.Blocks = append(c.Blocks, passes.Parse(t, "(1) return v0").Blocks[0])
	}
	last := &c.Blocks[len(c.Blocks)-1]
	for range ops - operation.Count(c) {
		last.Ops = append(last.Ops, api.Op{Kind: api.OpAt})
	}
	return c
}

// expectTurns checks which of the first blocks end with a branch.
func expectTurns(t *testing.T, c api.Code, want ...bool) {
	t.Helper()
	got := passes.Result(t, "P12.2", Unroll, c)
	for b, turned := range want {
		if (got.Blocks[b].Term.Kind == api.TermBranch) != turned {
			t.Errorf("P12.2: block %d of %d operations ends with %+v", b, operation.Count(c), got.Blocks[b].Term)
		}
	}
}

// heads has the heads 1, 2 and 3, with 20, 10 and 0 operations, and the jumps of the blocks 4 to 7 to the heads 2, 1, 2 and 3.
var heads = lines("(1) branch v0 1(v0) 2(v0)",
	"(1) "+ops(20)+"branch v0 8(v0) 8(v0)", "(1) "+ops(10)+"branch v0 8(v0) 3(v0)", "(1) branch v0 8(v0) 8(v0)",
	"(1) jump 2(v0)", "(1) jump 1(v0)", "(1) jump 2(v0)", "(1) jump 3(v0)", "(1) return v0")

// The operations count as they are behind the blocks that are turned until then; a later block that has less of them is still turned.
func TestOperationsOfTurning(t *testing.T) {
	expectTurns(t, passes.Parse(t, heads), true, true, true, true, true, true, true, true, false)
	expectTurns(t, filled(t, heads, 5960, 0), true, true, true, true, true, true, true, true, false)
	expectTurns(t, filled(t, heads, 5961, 0), true, true, true, true, true, true, false, true, false)
	expectTurns(t, filled(t, heads, 5970, 0), true, true, true, true, true, true, false, true, false)
	expectTurns(t, filled(t, heads, 5971, 0), true, true, true, true, true, false, true, true, false)
	expectTurns(t, filled(t, heads, 5980, 0), true, true, true, true, true, false, true, true, false)
	expectTurns(t, filled(t, heads, 5981, 0), true, true, true, true, true, false, false, true, false)
	expectTurns(t, filled(t, heads, 5990, 0), true, true, true, true, true, false, false, true, false)
	expectTurns(t, filled(t, heads, 5991, 0), true, true, true, true, false, false, false, true, false)
	expectTurns(t, filled(t, heads, 6000, 0), true, true, true, true, false, false, false, true, false)
}

// expectNumbers checks whether the head of a loop is put behind a block with the greatest number so far.
func expectNumbers(t *testing.T, head, block, want string) {
	t.Helper()
	code := func(ops string) string {
		return lines("(1) branch v0 1(v0) 1(v0)", "(1) "+head+"branch v0 3(v0) 3(v0)", "(1) "+ops, "(1) return v0")
	}
	if want == "" {
		expectKept(t, "P12.2", code(block+"jump 1(v0)"))
	} else {
		expectTurned(t, code(block+"jump 1(v0)"), code(block+want+"branch v0 3(v0) 3(v0)"))
	}
}

func TestGreatestNumber(t *testing.T) {
	expectNumbers(t, "v1 = 2; v2 = copy v1; ", "v9997 = 1; ", "v9998 = 2; v9999 = copy v9998; ")
	expectNumbers(t, "v1 = 2; v2 = copy v1; ", "v9998 = 1; ", "")
	expectNumbers(t, "v1 = 2; ", "v9998 = 1; ", "v9999 = 2; ")
	expectNumbers(t, "v1 = 2; ", "v9999 = 1; ", "")
	expectNumbers(t, "print v0; at 3; ", "v9999 = 1; ", "print v0; at 3; ")
	expectNumbers(t, constants(1, 24), "v9975 = 1; ", constants(9976, 24))
	expectNumbers(t, constants(1, 24), "v9976 = 1; ", "")
	// It is the greatest number of the block that counts, not the last one, and not that of the head.
	expectNumbers(t, "v1 = 2; ", "v9999 = 1; v1 = 2; ", "")
	expectNumbers(t, "v9999 = 2; v9998 = copy v9999; ", "", "v1 = 2; v2 = copy v1; ")
}

// A block that has no numbers left does not keep others back, and its operations do not count.
func TestLaterNumbers(t *testing.T) {
	from := lines("(1) branch v0 1(v0) 1(v0)", "(1) v1 = 2; "+ops(19)+"branch v0 2(v0) 3(v0)", "(1) v9999 = 1; jump 1(v0)", "(1) v9998 = 1; jump 1(v0)", "(1) return v0")
	expectTurns(t, filled(t, from, 0, 0), true, true, false, true, false)
	expectTurns(t, filled(t, from, 5980, 0), true, true, false, true, false)
	expectTurns(t, filled(t, from, 5981, 0), true, true, false, false, false)
}

// expectCopies checks to which blocks the first edges of the first blocks lead.
func expectCopies(t *testing.T, c api.Code, want ...int) {
	t.Helper()
	got, list := passes.Result(t, "P12.3", Unroll, c), []int{}
	for _, b := range got.Blocks[1 : 1+len(want)] {
		list = append(list, b.Term.To[0].Block)
	}
	copies := 0
	for b, to := range want {
		if to != b+1 {
			copies++
		}
	}
	if fmt.Sprint(list) != fmt.Sprint(want) || len(got.Blocks) != len(c.Blocks)+copies {
		t.Errorf("P12.3: of %d operations and %d blocks: the edges lead to %v, and there are %d blocks", operation.Count(c), len(c.Blocks), list, len(got.Blocks))
	}
}

// circling has the blocks 1 to 4 with 100, 200, 50 and 0 operations that branch to themselves.
var circling = lines("(1) jump 1(v0)", "(1) "+ops(100)+"branch v0 1(v0) 2(v0)", "(1) "+ops(200)+"branch v0 2(v0) 3(v0)",
	"(1) "+ops(50)+"branch v0 3(v0) 4(v0)", "(1) branch v0 4(v0) 5(v0)", "(1) return v0")

func TestBlocksOfUnrolling(t *testing.T) {
	expectCopies(t, filled(t, circling, 0, 0), 6, 7, 8, 9)
	expectCopies(t, filled(t, circling, 0, 396), 396, 397, 398, 399)
	expectCopies(t, filled(t, circling, 0, 397), 397, 398, 399, 4)
	expectCopies(t, filled(t, circling, 0, 398), 398, 399, 3, 4)
	expectCopies(t, filled(t, circling, 0, 399), 399, 2, 3, 4)
	expectCopies(t, filled(t, circling, 0, 400), 1, 2, 3, 4)
}

// The operations count as they are behind the blocks that are unrolled until then; a later block that has less of them is still unrolled.
func TestOperationsOfUnrolling(t *testing.T) {
	expectCopies(t, filled(t, circling, 5650, 0), 6, 7, 8, 9)
	expectCopies(t, filled(t, circling, 5651, 0), 6, 7, 3, 8)
	expectCopies(t, filled(t, circling, 5700, 0), 6, 7, 3, 8)
	expectCopies(t, filled(t, circling, 5701, 0), 6, 2, 7, 8)
	expectCopies(t, filled(t, circling, 5850, 0), 6, 2, 7, 8)
	expectCopies(t, filled(t, circling, 5851, 0), 6, 2, 3, 7)
	expectCopies(t, filled(t, circling, 5900, 0), 6, 2, 3, 7)
	expectCopies(t, filled(t, circling, 5901, 0), 1, 2, 6, 7)
	expectCopies(t, filled(t, circling, 5950, 0), 1, 2, 6, 7)
	expectCopies(t, filled(t, circling, 5951, 0), 1, 2, 3, 6)
	expectCopies(t, filled(t, circling, 6000, 0), 1, 2, 3, 6)
	expectCopies(t, filled(t, circling, 6000, 399), 1, 2, 3, 399)
}

// What turning adds counts for the unrolling: a block of 10 operations gets 20 more, and a copy of 30.
func TestOperationsOfBoth(t *testing.T) {
	from := lines("(1) jump 1(v0)", "(1) "+ops(20)+"branch v0 2(v0) 3(v0)", "(1) "+ops(10)+"jump 1(v0)", "(1) return v0")
	for count, want := range map[int][2]int{5950: {5, 6000}, 5951: {4, 5971}, 5980: {4, 6000}, 5981: {4, 5981}} {
		got := passes.Result(t, "P12.1", Unroll, filled(t, from, count, 0))
		if len(got.Blocks) != want[0] || operation.Count(got) != want[1] {
			t.Errorf("P12.1: of %d operations %d blocks with %d operations are made", count, len(got.Blocks), operation.Count(got))
		}
	}
}
