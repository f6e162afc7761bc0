package unroll

import (
	"testing"

	"debugger/api"
	"debugger/operation"
	"debugger/passes"
)

func TestRefused(t *testing.T) { passes.ExpectRefused(t, "P12.1", Unroll) }

func TestExample(t *testing.T) {
	passes.Expect(t, "P12.1", Unroll,
		lines("(1) mark 0; jump 1(v0)",
			"(1) mark 1; v1 = 9; v2 = v0 < v1; branch v2 2(v0) 3(v0)",
			"(1) mark 2; v1 = 1; v2 = v0 + v1; jump 1(v2)",
			"(1) return v0"),
		lines("(1) mark 0; jump 1(v0)",
			"(1) mark 1; v1 = 9; v2 = v0 < v1; branch v2 2(v0) 3(v0)",
			"(1) mark 2; v1 = 1; v2 = v0 + v1; mark 1; v3 = 9; v4 = v2 < v3; branch v4 4(v2) 3(v2)",
			"(1) return v0",
			"(1) mark 2; v1 = 1; v2 = v0 + v1; mark 1; v3 = 9; v4 = v2 < v3; branch v4 2(v2) 3(v2)"))
}

// There may be nothing to do.
func TestNoLoops(t *testing.T) {
	for _, text := range []string{
		"(1) return v0",
		"(1) throw v0",
		"(1) tail 2(v0)",
		lines("(1) jump 1(v0)", "(1) return v0"),
		lines("(1) branch v0 1(v0) 2()", "(1) return v0", "(0) v0 = 1; throw v0"),
		lines("(1) call 1(v0) 1() 2(v0)", "(1) return v0", "(2) return v1"),
	} {
		expectKept(t, "P12.1", text)
	}
}

// The parameters of the function, its contexts and its objects stay as they are.
func TestTheRest(t *testing.T) {
	head := lines("func 3", "context 0 9 2", "context 1 4 3", "object 0 1 2", "object 2 1 8", "")
	passes.Expect(t, "P12.1", Unroll,
		head+lines("(3) store 1 v2 v0; mark 9 in 2; jump 1(v2)", "(1) v1 = load 0 v0; at 3 in 1; branch v1 2(v1) 3()", "(1) zero 1; jump 1(v0)", "(0) v0 = 1; return v0"),
		head+lines("(3) store 1 v2 v0; mark 9 in 2; jump 1(v2)", "(1) v1 = load 0 v0; at 3 in 1; branch v1 2(v1) 3()", "(1) zero 1; v1 = load 0 v0; at 3 in 1; branch v1 4(v1) 3()", "(0) v0 = 1; return v0",
			"(1) zero 1; v1 = load 0 v0; at 3 in 1; branch v1 2(v1) 3()"))
}

// As there is no room, only what takes none is done: a head without operations is put behind a block.
func TestLargest(t *testing.T) {
	c := passes.Largest(t)
	got := passes.Result(t, "P12.1", Unroll, c)
	if len(got.Blocks) != len(c.Blocks) || operation.Count(got) != api.MaxOps || got.Blocks[5].Term.Kind != api.TermBranch || got.Blocks[4].Term.To[0].Block != 4 {
		t.Errorf("P12.1: %d blocks and %d operations; block 5 ends with %+v", len(got.Blocks), operation.Count(got), got.Blocks[5].Term)
	}
	got = passes.Result(t, "P12.1", Unroll, passes.Large(t, api.MaxBlocks-1, 64, 64, api.MaxOps))
	if len(got.Blocks) != api.MaxBlocks || operation.Count(got) != api.MaxOps || got.Blocks[4].Term.To[0].Block != api.MaxBlocks-1 {
		t.Errorf("P12.1: %d blocks and %d operations; block 4 ends with %+v", len(got.Blocks), operation.Count(got), got.Blocks[4].Term)
	}
}
