package unroll

import (
	"math/rand/v2"
	"testing"

	"debugger/passes"
)

// busy has loops to turn and to unroll, and each kind of terminator, with arguments wherever there may be some.
var busy = lines("context 0 3 1", "context 1 5 0", "object 0 3 4", "object 1 3 2",
	"(2) v2 = 0; v3 = v0 + v2; bind 0 to v3; bind 1 to v2 + 3; mark 3; store 0 v3 v1; jump 2(v3 v1 v0)",
	"(2) v2 = copy v1; zero 1; print v2; call 2(v2 v1) 3(v0) 4(v2)",
	"(3) v3 = 1; v4 = v3 * v1; v5 = load 0 v4; bind 1 to v4; at 4 in 1; branch v5 1(v4 v1) 3(v4 v3)",
	"(2) v2 = copy v0; jump 2(v2 v0 v2)",
	"(2) v2 = 2; branch v2 4(v0 v1) 5(v1 v0)",
	"(2) v2 = copy v1; jump 4(v2 v0)",
	"(1) v1 = copy v0; throw v1",
	"(1) v1 = copy v0; tail 2(v1 v0)",
	"(0) v0 = 3; v1 = copy v0; return v1")

func TestMemory(t *testing.T) {
	c := passes.Parse(t, busy)
	if got := passes.Result(t, "P2", Unroll, c); len(got.Blocks) != len(c.Blocks)+3 || len(got.Blocks[3].Ops) != 6 {
		t.Errorf("P12.1: %d blocks are added, and block 3 has %d operations", len(got.Blocks)-len(c.Blocks), len(got.Blocks[3].Ops))
	}
	passes.ExpectNew(t, Unroll, c)
	passes.ExpectNew(t, Unroll, passes.Largest(t))
	passes.ExpectNew(t, Unroll, passes.Parse(t, "(1) return v0"))
}

func TestMemoryByChance(t *testing.T) {
	r := rand.New(rand.NewPCG(12, 5))
	for range 300 {
		_, m := loopingModule(r)
		for _, c := range m.Funcs {
			passes.ExpectNew(t, Unroll, c)
		}
	}
}
