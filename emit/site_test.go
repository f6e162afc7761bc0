package emit

import "testing"

// expectSites checks the sites of the first function, with keep and without.
func expectSites(t *testing.T, want string, texts ...string) {
	t.Helper()
	for _, keep := range []bool{false, true} {
		u := emitted(t, keep, texts...)
		if got := sites(u.Funcs[0]); got != want {
			t.Errorf("P17.8: with keep %t the sites are\n%s, not\n%s, in\n%s", keep, got, want, shown(u.Words))
		}
	}
}

// A value that is defined by a Const of the block is found wherever it lies, but not one that is a copy or comes from another block.
func TestConstantArguments(t *testing.T) {
	expectSites(t, "8 f1 3: c7 c99999999999 - -", "(1) v1 = 7; v2 = 99999999999; v3 = copy v1; at 3; call 1(v1 v2 v3 v0) 1()\n(1) return v0", "(4) return v0")
	expectSites(t, "2 f1 3: c0 c0", "(1) v1 = 0; at 3; call 1(v1 v1) 1()\n(1) return v0", "(2) return v0")
	expectSites(t, "2 f1 3: -", "(1) v1 = 7; jump 1(v1)\n(1) at 3; call 1(v0) 1()", leaf)
	expectSites(t, "37 f1 3: c7", lines("(1) jump 1("+arguments(0, 11)+")", "(11) "+constants(11, 15)+"v15 = 7; "+prints(0, 15)+"at 3; call 1(v15) 2()", leaf), leaf)
}

// Others are found in the lowest slot that holds them ahead of the Call, and not in registers.
func TestArgumentsInSlots(t *testing.T) {
	expectSites(t, "2 f1 3: s0", "(1) at 3; call 1(v0) 1(v0)\n(2) return v0", leaf)
	expectSites(t, "0 f1 3: -", "(1) at 3; call 1(v0) 1()\n(1) return v0", leaf)
	expectSites(t, "14 f1 3: s0 s1 -", lines("(1) jump 1("+arguments(0, 9)+")", "(9) at 3; call 1(v8 v0 v1) 2(v0)", "(2) return v0"), "(3) return v0")
	expectSites(t, "13 f1 3: s0", lines("(1) jump 1("+arguments(0, 9)+")", "(9) at 3; call 1(v8) 2(v8)", "(2) return v0"), leaf)
	expectSites(t, "36 f1 3: s3", lines("(1) jump 1("+arguments(0, 11)+")", "(11) "+constants(11, 15)+"v15 = copy v1; "+prints(0, 15)+"at 3; call 1(v15) 2()", leaf), leaf)
}

// A Tail gives up the slots; its site is at the Jump, but has the position ahead of the end of the frame.
func TestTailSites(t *testing.T) {
	expectSites(t, "4 f1 tail 3: c5 -", "(2) v2 = 5; at 3; tail 1(v2 v0)", "(2) return v0")
	expectSites(t, "2 f1 tail 3: -", "object 0 0 1\n(1) at 3; tail 1(v0)", leaf)
	expectSites(t, "14 f1 tail 3: - c3", lines("(1) jump 1("+arguments(0, 9)+")", "(9) v9 = 3; at 3; tail 1(v8 v9)"), "(2) return v0")
	expectSites(t, "0 f0 tail 3: -", "(1) at 3; tail 0(v0)")
	expectSites(t, "0 f0 tail -1: ", "(0) tail 0()")
}

// A site has the position of the last row ahead of the terminator's instructions, or at the first one of them.
func TestPositionsOfSites(t *testing.T) {
	expectSites(t, "0 f1 3 in 1: -", "context 0 7 0\n(1) at 3 in 1; call 1(v0) 1()\n(1) return v0", leaf)
	expectSites(t, "1 f1 3: -", "(1) at 3; print v0; call 1(v0) 1()\n(1) return v0", leaf)
	expectSites(t, "1 f1 4: -", "(1) at 3; print v0; at 4; call 1(v0) 1()\n(1) return v0", leaf)
	expectSites(t, "0 f1 -1: -", "(1) call 1(v0) 1()\n(1) return v0", leaf)
	expectSites(t, "1 f1 -1: -", "(1) at 3; jump 1(v0)\n(1) call 1(v0) 1()", leaf)
	expectSites(t, "3 f1 -1: -", "object 0 0 1\n(1) at 3; store 0 v0 v0; call 1(v0) 1()\n(1) return v0", leaf)
	for _, keep := range []bool{false, true} {
		u := emitted(t, keep, "(2) mark 8; call 1(v1) 1()\n(1) return v0", leaf)
		expectText(t, "P17.8", sites(u.Funcs[0]), map[bool]string{false: "1 f1 8: -", true: "2 f1 8: -"}[keep])
	}
}

func TestSeveralSites(t *testing.T) {
	text := lines("(2) at 3; branch v0 1(v0) 2(v1)", "(1) at 4; call 1(v0) 3()", "(1) at 5; call 2(v0) 3()", "(1) at 6; tail 1(v0)")
	expectSites(t, "4 f1 4: -; 9 f2 5: -; 14 f1 tail 6: -", text, leaf, leaf)
	u := emitted(t, false, leaf, "(1) at 3; tail 0(v0)", "(1) v1 = 5; at 3; call 2(v1) 1()\n(1) return v0")
	for f, want := range []string{"", "3 f0 tail 3: -", "5 f2 3: c5"} {
		expectText(t, "P17.8", sites(u.Funcs[f]), want)
	}
}
