package sink

import (
	"testing"

	"debugger/api"
	"debugger/passes"
)

func TestRefused(t *testing.T) { passes.ExpectRefused(t, "P13.1", Sink) }

func TestExample(t *testing.T) {
	expectSunk(t, "(1) v1 = 1; v2 = v0 + v1; bind 0 to v2; mark 3; print v0; print v2; return v0",
		"(1) bind 0 to v2; mark 3; print v0; v1 = 1; v2 = v0 + v1; print v2; return v0")
}

// There may be nothing to do.
func TestUnchanged(t *testing.T) {
	for _, text := range []string{
		"(1) return v0",
		"(0) v0 = 1; return v0",
		lines("(0) jump 1()", "(0) tail 2()"),
		"(2) mark 3; bind 0 to v1; v2 = 1; v3 = v0 + v2; print v3; v4 = copy v1; print v4; return v0",
		lines("object 0 0 2", "(2) v2 = 1; store 0 v2 v0; v3 = load 0 v1; print v3; zero 0; at 3; return v3"),
		lines("(1) mark 0; branch v0 1() 2(v0)", "(0) v0 = 1; throw v0", "(1) print v0; v1 = 2; call 0(v1) 2() 2()"),
	} {
		expectKept(t, text)
	}
}

// Each block is ordered by itself: the same numbers are other values in another one.
func TestBlocks(t *testing.T) {
	expectSunk(t,
		lines("(1) v1 = 5; mark 1; jump 1(v1)", "(1) print v0; v1 = 6; mark 2; print v1; branch v1 2() 3(v0)", "(0) v0 = 7; v1 = 8; mark 3; print v0; return v1", "(1) v1 = copy v0; mark 4; print v0; throw v1"),
		lines("(1) mark 1; v1 = 5; jump 1(v1)", "(1) print v0; mark 2; v1 = 6; print v1; branch v1 2() 3(v0)", "(0) mark 3; v0 = 7; print v0; v1 = 8; return v1", "(1) mark 4; print v0; v1 = copy v0; throw v1"))
}

// A block that is not reached is ordered as well.
func TestUnreached(t *testing.T) {
	expectSunk(t, lines("(1) return v0", "(2) v2 = 5; mark 1; jump 1(v2 v1)"), lines("(1) return v0", "(2) mark 1; v2 = 5; jump 1(v2 v1)"))
}

// The parameters and terminators of the blocks, the contexts, the objects and the parameters of the function stay.
func TestTheRest(t *testing.T) {
	head := lines("func 3", "context 0 7 1", "context 1 9 2", "object 0 3 4", "object 2 3 2", "object 1 0 8", "")
	ends := []string{"branch v3 1(v3 v0) 2(v3)", "call 4(v3 v1 v3) 1(v3) 2()", "call 4(v3) 1(v3)", "tail 5(v3 v0)", "return v3", "throw v3", "jump 1(v0 v3)"}
	for _, end := range ends {
		expectSunk(t,
			head+lines("(3) v3 = 1; at 3 in 1; store 2 v0 v1; "+end, "(2) v2 = 1; mark 4 in 2; throw v2", "(1) v1 = 1; zero 1; tail 2()"),
			head+lines("(3) at 3 in 1; store 2 v0 v1; v3 = 1; "+end, "(2) mark 4 in 2; v2 = 1; throw v2", "(1) zero 1; v1 = 1; tail 2()"))
	}
}

// Every field of an operation goes with it.
func TestFields(t *testing.T) {
	head := lines("context 0 7 1", "object 0 3 4", "object 1 3 4", "")
	expectSunk(t,
		head+"(2) v9999 = -9; v7 = v1 - v0; bind 3.2 in 1 to v7 + -4; bind 4.1 to constant + 6; bind 5 in 1 to entry 1 + 8; mark 8 in 1; at 9 in 1; store 1 v0 v1; v5 = load 1 v1; zero 1; print v5; return v5",
		head+"(2) bind 3.2 in 1 to v7 + -4; bind 4.1 to constant + 6; bind 5 in 1 to entry 1 + 8; mark 8 in 1; at 9 in 1; store 1 v0 v1; v5 = load 1 v1; zero 1; print v5; v7 = v1 - v0; v9999 = -9; return v5")
}

// In the largest code, the long row of copies stays; each one is used by the next.
func TestLargest(t *testing.T) {
	c := passes.Largest(t)
	got := passes.Result(t, "P13.1", Sink, c)
	b, was := got.Blocks[0].Ops, c.Blocks[0].Ops
	if len(b) != len(was) || b[0].Kind != api.OpBind || b[1].Kind != api.OpBind || b[2] != was[0] || b[len(b)-1] != was[len(was)-1] {
		t.Errorf("P13.1: %d operations, from %+v to %+v", len(b), b[0], b[len(b)-1])
	}
	c = passes.Parse(t, "(1) return v0")
	for v := range api.MaxOps {
		c.Blocks[0].Ops = append(c.Blocks[0].Ops, api.Op{Kind: api.OpConst, Dst: 1 + v})
	}
	got = passes.Result(t, "P13.1", Sink, c)
	for i, o := range got.Blocks[0].Ops {
		if o.Dst != api.MaxOps-i {
			t.Fatalf("P13.1: the operation %d is that of v%d", i, o.Dst)
		}
	}
}
