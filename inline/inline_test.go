package inline

import (
	"testing"

	"debugger/api"
	"debugger/passes"
)

func TestRefused(t *testing.T) {
	passes.ExpectRefusedModules(t, "P11.1", Inline, passes.ParseModule(t, caller(1, 2), chain(3), long(2)))
	if m := Inline(api.Module{}); len(m.Funcs) != 0 {
		t.Errorf("P11.1: a module without functions becomes %+v", m)
	}
}

func TestExample(t *testing.T) {
	expectInlined(t, "P11.3",
		lines("context 0 5 1",
			"(2) bind 0 to v1; at 5; jump 2(v0 v1)",
			"(2) v2 = v0 * v1; return v2",
			"(2) bind 0 to v1; v2 = 1; v3 = v0 + v2; jump 1(v3 v1)"),
		lines("(2) bind 0 to v1; at 5; call 1(v0) 1(v1)", "(2) v2 = v0 * v1; return v2"),
		next)
}

// Each function is changed, whatever its number; its parameters, contexts, objects and other blocks stay.
func TestFunctions(t *testing.T) {
	head := lines("context 0 7 1", "context 1 2 3", "object 1 5 2", "object 0 5 3")
	from := []string{
		next,
		lines(head, "(3) mark 4; call 0(v2) 1()", "(1) v1 = 5; store 1 v0 v1; call 1(v0 v0 v1) 1() 2(v1)", "(2) tail 3(v0)"),
		lines("(0) tail 2()", "(1) v1 = load 0 v0; throw v1", "object 0 1 1"),
		lines("(1) mark 9; call 0(v0) 1()", "(1) bind 1 to v0; return v0"),
	}
	want := []string{
		next,
		lines(head, "context 0 4 0", "(3) mark 4; jump 3(v2)", "(1) v1 = 5; store 1 v0 v1; call 1(v0 v0 v1) 1() 2(v1)", "(2) tail 3(v0)", "(1) v1 = 1; v2 = v0 + v1; jump 1(v2)"),
		from[2],
		lines("context 0 9 0", "(1) mark 9; jump 2(v0)", "(1) bind 1 to v0; return v0", "(1) v1 = 1; v2 = v0 + v1; jump 1(v2)"),
	}
	passes.ExpectModule(t, "P11.1", Inline, from, want)
}

// Calls are all that is replaced: a tail call of a leaf stays.
func TestTailCalls(t *testing.T) {
	expectKept(t, "P11.1", "(2) mark 3; tail 1(v0)", next)
	expectKept(t, "P11.1", "(2) mark 3; return v1", next)
}
