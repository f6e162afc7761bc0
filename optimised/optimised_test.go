package optimised

import (
	"math/rand/v2"
	"testing"

	"debugger/api"
	"debugger/ir"
	"debugger/operation"
	"debugger/passes"
)

// size returns how many operations a module has.
func size(m api.Module) int {
	count := 0
	for _, c := range m.Funcs {
		count += operation.Count(c)
	}
	return count
}

// The modules of all levels are sound and end like the first one if that ends; the passes make the most of them smaller.
func TestModule(t *testing.T) {
	r := rand.New(rand.NewPCG(22, 1))
	smaller, ended := 0, 0
	for range 100 {
		s, m := passes.Program(t, r.IntN)
		one, two := Module(m, 1), Module(m, 2)
		if !passes.EqualModules(Module(m, 0), m) || ir.Check(one) != api.OK || ir.Check(two) != api.OK {
			t.Fatalf("a module is not sound:\n%s", passes.PrintModule(m))
		}
		if size(one) < size(m) && !passes.EqualModules(one, two) {
			smaller++
		}
		args := passes.Arguments(r.IntN, m.Funcs[0].Params)
		_, want := passes.Whole(s, m, 0, args, 300)
		if want.Err != api.OK {
			continue
		}
		ended++
		for _, other := range []api.Module{one, two} {
			if _, o := passes.Whole(s, other, 0, args, 300); !passes.EqualOutcomes(o, want) {
				t.Errorf("S1: the outcome is %+v, not %+v:\n%s", o, want, passes.PrintModule(other))
			}
		}
	}
	if smaller < 60 || ended < 30 {
		t.Errorf("only %d modules become smaller, and %d runs end", smaller, ended)
	}
}
