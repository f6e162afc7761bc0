package fold

import (
	"math/rand/v2"
	"testing"

	"debugger/modules"
	"debugger/passes"
)

// busy has each kind of terminator, with arguments wherever there may be some.
var busy = lines("context 0 3 1", "context 1 5 0", "object 0 3 4", "object 1 3 2",
	"(2) v2 = 0; v3 = v0 + v2; v4 = copy v3; bind 0 to v4; bind 1 to v2 + 3; mark 3; v5 = v2 + v2; store 0 v5 v4; branch v5 1(v4 v1) 2(v4 v3 v5)",
	"(2) v2 = copy v1; zero 1; print v2; call 2(v2 v1) 2(v2 v0) 3(v2)",
	"(3) v3 = 1; v4 = v3 * v1; v5 = load 0 v4; at 4 in 1; branch v5 1(v4 v1) 3(v4 v3)",
	"(2) v2 = copy v0; jump 4(v2)",
	"(1) v1 = 2; branch v1 5(v0 v1) 6(v1)",
	"(2) v2 = copy v1; tail 3(v2 v0)",
	"(1) v1 = copy v0; throw v1",
	"(0) v0 = 3; v1 = copy v0; return v1")

func TestMemory(t *testing.T) {
	c := passes.Parse(t, busy)
	if passes.Equal(passes.Result(t, "P2", Fold, c), c) {
		t.Error("P8.2: nothing is folded")
	}
	passes.ExpectNew(t, Fold, c)
}

func TestMemoryByChance(t *testing.T) {
	r := rand.New(rand.NewPCG(8, 4))
	for range 300 {
		_, m := modules.Module(r.IntN)
		for _, c := range m.Funcs {
			passes.ExpectNew(t, Fold, c)
		}
	}
}
