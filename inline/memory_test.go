package inline

import (
	"math/rand/v2"
	"testing"

	"debugger/passes"
)

// busy is a module in which calls are replaced by leaves with everything that they may have; others stay.
func busy(t *testing.T) []string {
	t.Helper()
	return []string{
		lines("context 0 7 1", "context 1 2 3", "object 1 5 2", "object 0 5 3",
			"(3) bind 0 to v0; bind 1.2 in 2 to v1 + 4; bind 3 to entry 2; mark 4; call 3(v2) 1(v0 v1)",
			"(3) v3 = 5; bind 0 to v3; bind 3 to nowhere; at 5; store 1 v0 v1; call 2() 2(v2 v3) 3(v3 v1)",
			"(3) mark 6; call 1(v0 v0 v1) 2(v1 v2)",
			"(3) mark 8; call 2() 4() 4()",
			"(1) mark 9 in 2; call 3(v0) 5()",
			"(1) tail 3(v0)"),
		lines("context 0 3 0", "(3) mark 1; call 3(v0) 1()", "(1) mark 2; call 3(v0) 1()"),
		whole,
		lines("(1) branch v0 1(v0) 2()", "(1) v1 = 1; jump 3(v1 v0)", "(0) v0 = 3; throw v0", "(2) return v1"),
	}
}

func TestMemory(t *testing.T) {
	m := passes.ParseModule(t, busy(t)...)
	got := passes.AppliedModule(t, "P2", Inline, reckon, m)
	if len(got.Funcs[0].Contexts) != 7 || len(got.Funcs[1].Contexts) != 4 || len(got.Funcs[2].Contexts) != 1 {
		t.Errorf("P11.1: the module becomes\n%s", passes.PrintModule(got))
	}
	passes.ExpectNewModule(t, Inline, m)
	passes.ExpectNewModule(t, Inline, fill(m, 360, 5700, 10, 0))
	passes.ExpectNewModule(t, Inline, passes.ParseModule(t, caller(1), lines("(0) jump 1()", "(0) jump 1()")))
	passes.ExpectNewModule(t, Inline, passes.ParseModule(t, "(0) v0 = 1; return v0"))
}

func TestMemoryByChance(t *testing.T) {
	r := rand.New(rand.NewPCG(11, 5))
	for range 300 {
		_, m := callingModule(r)
		passes.ExpectNewModule(t, Inline, m)
	}
}
