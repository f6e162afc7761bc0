package emit

import (
	"fmt"
	"testing"
)

// expectSteps checks the steps of the first function, with keep and without.
func expectSteps(t *testing.T, want string, texts ...string) {
	t.Helper()
	for _, keep := range []bool{false, true} {
		u := emitted(t, keep, texts...)
		if got := steps(u.Funcs[0]); got != want {
			t.Errorf("P17.9: with keep %t the steps are\n%s, not\n%s, in\n%s", keep, got, want, shown(u.Words))
		}
	}
}

// Behind each end of the frame there is none for one instruction; behind that instruction there is, unless the function ends there.
func TestSteps(t *testing.T) {
	frame := "object 0 0 2\n"
	expectSteps(t, "0:0 1:2 4:0", frame+leaf)
	expectSteps(t, "0:0 1:2 4:0", frame+"(1) throw v0")
	expectSteps(t, "0:0 1:2 2:0", frame+"(0) tail 0()")
	expectSteps(t, "0:0 1:2", frame+"(0) jump 1()\n(0) jump 1()")
	expectSteps(t, "0:0 1:2 7:0 8:2 11:0", frame+"(1) branch v0 1(v0) 2(v0)\n(1) return v0\n(1) throw v0")
	expectSteps(t, "0:0 1:2 7:0 8:2 9:0 10:2", frame+"(1) branch v0 1(v0) 2(v0)\n(1) return v0\n(1) tail 0(v0)\n(1) jump 3(v0)")
	expectSteps(t, "0:0 1:2 4:0 5:2 10:0", frame+"(1) call 1(v0) 1()\n(1) return v0", leaf)
	expectSteps(t, "0:0 1:2 10:0", frame+"(1) call 1(v0) 1() 1()\n(1) return v0", leaf)
}

// A function without a frame has one step, whatever it does.
func TestStepsWithoutFrame(t *testing.T) {
	expectSteps(t, "0:0", leaf)
	expectSteps(t, "0:0", "(1) branch v0 1(v0) 2(v0)\n(1) return v0\n(1) tail 0(v0)")
	expectSteps(t, "0:0", "(1) call 1(v0) 1()\n(1) return v0", leaf)
}

func TestStepsOfFunctions(t *testing.T) {
	u := emitted(t, true, leaf, "object 0 0 5\n(1) mark 1; return v0", leaf, lines("(1) jump 1("+arguments(0, 9)+")", "(9) return v8"))
	for f, want := range []string{"0:0", "3:0 4:5 8:0", "9:0", "12:0 13:1 25:0"} {
		expectText(t, "P17.9", steps(u.Funcs[f]), want)
	}
}

// Objects lie behind all other slots.
func TestObjects(t *testing.T) {
	head := "context 0 7 0\ncontext 1 8 0\nobject 0 3 2\nobject 2 5 4\nobject 0 0 8\n"
	for text, want := range map[string]string{
		leaf:                                  "[{0 3 0 2} {2 5 2 4} {0 0 6 8}]",
		"(1) call 0(v0) 1(v0)\n(2) return v0": "[{0 3 1 2} {2 5 3 4} {0 0 7 8}]",
		lines("(1) jump 1("+arguments(0, 10)+")", "(10) call 0(v0) 2(v0 v9)", "(3) return v0"): "[{0 3 4 2} {2 5 6 4} {0 0 10 8}]",
	} {
		for _, keep := range []bool{false, true} {
			u := emitted(t, keep, head+text)
			if got := fmt.Sprint(u.Funcs[0].Objects); got != want {
				t.Errorf("P17.9: the objects are %s, not %s", got, want)
			}
		}
	}
	if u := emitted(t, false, leaf); len(u.Funcs[0].Objects) > 0 {
		t.Errorf("P17.9: the objects are %+v", u.Funcs[0].Objects)
	}
}

func TestContexts(t *testing.T) {
	u := emitted(t, false, leaf, "context 0 7 0\ncontext 1 8 1\ncontext 0 9999 0\n"+leaf)
	for f, want := range []string{"[{-1 -1 0}]", "[{-1 -1 1} {0 7 0} {1 8 1} {0 9999 0}]"} {
		if got := fmt.Sprint(u.Funcs[f].Contexts); got != want {
			t.Errorf("P17.9: the contexts are %s, not %s", got, want)
		}
	}
}
