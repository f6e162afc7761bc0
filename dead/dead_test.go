package dead

import (
	"testing"

	"debugger/api"
	"debugger/passes"
)

func TestRefused(t *testing.T) { passes.ExpectRefused(t, "P10.1", Dead) }

func TestExample(t *testing.T) {
	expectDead(t, "P10.6", "(1) v1 = 1; v2 = v0 + v1; bind 0 to v2; mark 3; return v0", "(1) bind 0 to v0 + 1; mark 3; return v0")
}

// The parameters of the function, the contexts and the objects stay, also those that nothing uses.
func TestParts(t *testing.T) {
	head := lines("func 3", "context 0 7 1", "context 1 9 2", "object 0 3 4", "object 2 3 2", "object 1 0 8")
	expectDead(t, "P10.1", lines(head, "(4) v4 = 1; jump 2(v4)", "(0) zero 1; v0 = 2; return v0", "(1) v1 = 2; return v1"),
		lines(head, "(4) jump 1()", "(0) v1 = 2; return v1"))
	expectKept(t, "P10.1", lines(head, "(4) return v2"))
}

// The operations without a value stay, in their order, also where what they write is never read.
func TestOperationsWithoutValue(t *testing.T) {
	head := lines("context 0 7 1", "object 0 3 4", "object 1 3 4")
	expectDead(t, "P10.5",
		lines(head, "(2) v2 = 5; mark 3; store 0 v0 v1; v3 = 6; at 4 in 1; zero 1; v4 = v2 + v3; bind 0 to nowhere; zero 1; print v1; mark 3; mark 3; print v1; store 0 v0 v1; return v0"),
		lines(head, "(2) mark 3; store 0 v0 v1; at 4 in 1; zero 1; bind 0 to nowhere; zero 1; print v1; mark 3; mark 3; print v1; store 0 v0 v1; return v0"))
}

// A block may be left without anything but its terminator; it stays.
func TestEmptyBlocks(t *testing.T) {
	expectDead(t, "P10.5",
		lines("(1) branch v0 1(v0) 2(v0)", "(1) v1 = 5; v2 = v1 + v0; jump 3(v2)", "(1) jump 3(v0)", "(1) v1 = 5; return v1"),
		lines("(1) branch v0 1() 2()", "(0) jump 3()", "(0) jump 3()", "(0) v1 = 5; return v1"))
	expectKept(t, "P10.5", lines("(0) jump 1()", "(0) jump 2()", "(0) tail 0()"))
}

func TestLargest(t *testing.T) {
	c := passes.Largest(t)
	got := passes.Result(t, "P10.1", Dead, c)
	// Only the first four blocks are reached, and the long row of copies is not needed.
	if len(got.Blocks) != 4 || len(got.Blocks[0].Ops) != 5 || len(got.Contexts) != 64 || len(got.Objects) != 64 {
		t.Errorf("P10.1: %d blocks, %d operations, %d contexts, %d objects", len(got.Blocks), len(got.Blocks[0].Ops), len(got.Contexts), len(got.Objects))
	}
	c = passes.Large(t, 4, 64, 64, api.MaxOps)
	c.Blocks[0].Term.A = c.Blocks[0].Ops[len(c.Blocks[0].Ops)-1].Dst
	got = passes.Result(t, "P10.4", Dead, c)
	if lost := len(c.Blocks[0].Ops) - len(got.Blocks[0].Ops); lost != 0 {
		t.Errorf("P10.4: %d of the copies in a long row are lost", lost)
	}
}
