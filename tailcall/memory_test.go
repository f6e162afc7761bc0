package tailcall

import (
	"math/rand/v2"
	"testing"

	"debugger/passes"
)

// busy has operations of each kind and each kind of terminator, with arguments wherever there may be some; two calls become tail calls.
var busy = lines("context 0 3 1", "context 1 5 0", "object 0 3 4", "object 1 3 2",
	"(2) v2 = 0; v3 = v0 + v2; bind 0 to v3; bind 1 to v2 + 3; mark 3; store 0 v3 v1; jump 2(v3 v1 v0)",
	"(2) v2 = copy v1; zero 1; print v2; call 2(v2 v1) 3(v0) 4(v2)",
	"(3) v3 = 1; v4 = v3 * v1; v5 = load 0 v4; bind 1 to v4; at 4 in 1; branch v5 1(v4 v1) 3(v4 v3)",
	"(2) v2 = copy v0; v3 = 5; throw v2",
	"(2) v2 = 2; mark 4; tail 1(v2 v0)",
	"(0) v0 = 3; v1 = copy v0; at 4; return v1",
	"(2) mark 5; call 3(v1 v0 v1) 8()",
	"(1) at 6; call 3() 8()",
	"(1) bind 0 to v0; at 7; return v0")

func TestMemory(t *testing.T) {
	passes.ExpectNew(t, Tail, passes.Parse(t, busy))
	passes.ExpectNew(t, Tail, passes.Largest(t))
	passes.ExpectNew(t, Tail, passes.Parse(t, "(1) return v0"))
	passes.ExpectNew(t, Tail, passes.Parse(t, lines("(1) call 0(v0) 1()", "(1) return v0")))
	passes.ExpectNew(t, Tail, passes.Parse(t, lines("(0) call 0() 1()", "(1) at 0; return v0")))
}

func TestMemoryByChance(t *testing.T) {
	r := rand.New(rand.NewPCG(14, 5))
	tails := 0
	for range 600 {
		_, m := endingModule(r)
		for _, c := range m.Funcs {
			passes.ExpectNew(t, Tail, c)
		}
		tails += added(m, passes.Each(Tail)(m))
	}
	if tails < 200 {
		t.Errorf("only %d tail calls", tails)
	}
}
