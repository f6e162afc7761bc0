package merge

import (
	"math/rand/v2"
	"testing"

	"debugger/passes"
)

// busy has joins, and each kind of terminator, with arguments wherever there may be some.
var busy = lines("context 0 3 1", "context 1 5 0", "object 0 3 4", "object 1 3 2",
	"(2) v2 = 0; v3 = v0 + v2; bind 0 to v3; bind 1 to v2 + 3; mark 3; store 0 v3 v1; jump 8(v3 v1)",
	"(2) v2 = copy v1; zero 1; print v2; call 2(v2 v1) 2(v2 v0) 3(v2)",
	"(3) v3 = 1; v4 = v3 * v1; v5 = load 0 v4; at 4 in 1; branch v5 1(v4 v1) 3(v4 v3)",
	"(2) v2 = copy v0; jump 4(v2)",
	"(1) v1 = 2; branch v1 5(v0 v1) 6(v1)",
	"(2) v2 = copy v1; tail 3(v2 v0)",
	"(1) v1 = copy v0; throw v1",
	"(0) v0 = 3; v1 = copy v0; return v1",
	"(2) v2 = v0 + v1; branch v2 1(v2 v1) 2(v1 v1 v0)")

func TestMemory(t *testing.T) {
	c := passes.Parse(t, busy)
	if got := passes.Result(t, "P2", Merge, c); len(got.Blocks) != len(c.Blocks)-2 {
		t.Errorf("P9.1: %d blocks are joined, not 2", len(c.Blocks)-len(got.Blocks))
	}
	passes.ExpectNew(t, Merge, c)
	passes.ExpectNew(t, Merge, passes.Largest(t))
}

func TestMemoryByChance(t *testing.T) {
	r := rand.New(rand.NewPCG(9, 4))
	for range 300 {
		_, m := jumpingModule(r)
		for _, c := range m.Funcs {
			passes.ExpectNew(t, Merge, c)
		}
	}
}
