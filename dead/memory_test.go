package dead

import (
	"math/rand/v2"
	"testing"

	"debugger/passes"
)

// busy has each kind of terminator, with arguments wherever there may be some, and something to remove in each part of it.
var busy = lines("context 0 3 1", "context 1 5 0", "object 0 3 4", "object 1 3 2",
	"(2) v2 = 0; v3 = v0 + v2; v4 = copy v3; bind 0 to v4; bind 1 to v2 + 3; mark 3; v5 = v2 + v2; store 0 v5 v0; branch v5 1(v4 v1) 2(v4 v3 v5)",
	"(2) v2 = copy v1; zero 1; bind 0 to v0; print v2; call 2(v2 v1) 3(v0) 4(v2 v0)",
	"(3) v3 = 1; v4 = v3 * v1; v5 = load 0 v4; bind 1 to v5; at 4 in 1; branch v1 1(v2 v1) 6(v4 v3 v1)",
	"(2) v2 = copy v0; jump 4(v2 v0 v1)",
	"(3) v3 = 2; v4 = v0 - v3; branch v1 1(v4 v1) 7(v0 v4)",
	"(1) v1 = 1; jump 7(v0 v1)",
	"(3) v3 = copy v1; tail 3(v2 v0)",
	"(2) v2 = copy v0; throw v1")

func TestMemory(t *testing.T) {
	c := passes.Parse(t, busy)
	blocks, params, ops := removed(c, passes.Result(t, "P2", Dead, c))
	if blocks != 1 || params != 7 || ops != 4 {
		t.Errorf("P10.5: %d blocks, %d parameters and %d operations are removed", blocks, params, ops)
	}
	passes.ExpectNew(t, Dead, c)
	passes.ExpectNew(t, Dead, passes.Largest(t))
	passes.ExpectNew(t, Dead, passes.Parse(t, "(0) v0 = 1; return v0"))
}

func TestMemoryByChance(t *testing.T) {
	r := rand.New(rand.NewPCG(10, 5))
	for range 300 {
		_, m := looseModule(r)
		for _, c := range m.Funcs {
			passes.ExpectNew(t, Dead, c)
		}
	}
}
