package emit

import "testing"

const (
	leaf     = "(1) return v0"
	leafCode = "move r0 r1; const r13 0; return"
)

func TestJump(t *testing.T) {
	expectBoth(t, "P17.4", "jump 1; "+leafCode, "(1) jump 1(v0)\n(1) return v0")
	expectBoth(t, "P17.4", "move r1 r2; jump 2; "+leafCode, "(2) jump 1(v1)\n(1) return v0")
	expectBoth(t, "P17.4", "jump 4; "+leafCode+"; jump 1", "(1) jump 2(v0)\n(1) return v0\n(1) jump 1(v0)")
	expectBoth(t, "P17.4", "jump 1; jump 1", "(0) jump 1()\n(0) jump 1()")
	expectBoth(t, "P17.4", "addimm r14 r14 -2; jump 2; jump 2", "object 0 3 2\n(0) jump 1()\n(0) jump 1()")
}

func TestBranch(t *testing.T) {
	expectBoth(t, "P17.4", "zero r2 2; jump 4; move r1 r2; jump 7; "+leafCode+"; move r0 r1; const r13 1; return", "(2) branch v1 1(v0) 2(v1)\n(1) return v0\n(1) throw v0")
	expectBoth(t, "P17.4", "zero r1 3; move r1 r2; jump 4; jump 4; "+leafCode, "(2) branch v0 1(v1) 1(v0)\n(1) return v0")
	expectBoth(t, "P17.4", "zero r1 2; jump 3; jump 3; "+leafCode, "(1) branch v0 1(v0) 1(v0)\n(1) return v0")
	expectBoth(t, "P17.4", "zero r1 5; move r0 r1; move r1 r2; move r2 r0; jump 6; jump 6; "+leafCode, "(2) branch v0 1(v1 v0) 1(v0 v1)\n(2) return v0")
	expectBoth(t, "P17.4", "addimm r14 r14 -1; zero r1 4; move r1 r2; jump 5; jump 5; move r0 r1; const r13 0; addimm r14 r14 1; return", "object 0 0 1\n(2) branch v0 1(v1) 1(v0)\n(1) return v0")
}

// The condition may lie in a slot.
func TestBranchOnSlot(t *testing.T) {
	text := lines("(1) jump 1("+arguments(0, 9)+")", "(9) branch v8 2(v8) 2(v1)", "(1) return v0")
	u := emitted(t, false, text)
	expectWords(t, "P17.4", u, 10, "load r15 r14 0; zero r15 14; load r1 r14 0; jump 16; move r1 r2; jump 16; move r0 r1")
}

// The values of both edges are saved, the values of the first one first.
func TestCallWithHandler(t *testing.T) {
	expectBoth(t, "P17.4", "addimm r14 r14 -2; store r1 r14 0; store r2 r14 1; move r1 r2; call 21; zero r13 10; "+
		"move r1 r0; load r2 r14 0; load r3 r14 1; jump 17; "+
		"move r1 r0; load r2 r14 0; jump 13; "+
		"move r0 r2; const r13 0; addimm r14 r14 2; return; "+
		"move r0 r3; const r13 1; addimm r14 r14 2; return; "+leafCode,
		"(2) call 1(v1) 1(v0) 2(v0 v1)\n(2) return v1\n(3) throw v2", leaf)
	expectBoth(t, "P17.4", "addimm r14 r14 -2; store r2 r14 0; store r1 r14 1; call 0; zero r13 9; "+
		"move r1 r0; load r2 r14 1; load r3 r14 0; jump 12; "+
		"move r1 r0; load r2 r14 0; jump 16; "+
		"move r0 r3; const r13 1; addimm r14 r14 2; return; "+
		"move r0 r2; const r13 0; addimm r14 r14 2; return",
		"(2) call 0(v0 v1) 2(v1) 1(v0 v1)\n(3) throw v2\n(2) return v1")
	expectBoth(t, "P17.4", "call 9; zero r13 4; move r1 r0; jump 6; move r1 r0; jump 6; move r0 r1; const r13 0; return; move r0 r1; const r13 1; return",
		"(1) call 1(v0) 1() 1()\n(1) return v0", "(1) throw v0")
}

func TestCallWithoutHandler(t *testing.T) {
	expectBoth(t, "P17.4", "addimm r14 r14 -1; store r1 r14 0; move r1 r2; call 14; zero r13 7; "+
		"addimm r14 r14 1; return; move r1 r0; load r2 r14 0; jump 10; move r0 r2; const r13 0; addimm r14 r14 1; return; "+leafCode,
		"(2) call 1(v1) 1(v0)\n(2) return v1", leaf)
	expectBoth(t, "P17.4", "call 8; zero r13 3; return; move r1 r0; jump 5; move r0 r1; const r13 0; return; "+leafCode,
		"(1) call 1(v0) 1()\n(1) return v0", leaf)
	expectBoth(t, "P17.4", "call 0; zero r13 3; return; move r1 r0; jump 5; move r0 r1; const r13 0; return; call 0; zero r13 11; return; move r1 r0; jump 13; "+leafCode,
		"(1) call 0(v0) 1()\n(1) return v0", "(1) call 0(v0) 1()\n(1) return v0")
}

// Arguments are moved at once, behind the transfers into the save slots.
func TestArguments(t *testing.T) {
	start := "addimm r14 r14 -1; store r2 r14 0; "
	for args, want := range map[string]string{
		"v0 v1 v2 v3": "call 0",
		"v1 v0 v2 v3": "move r0 r1; move r1 r2; move r2 r0; call 0",
		"v3 v3 v3 v3": "move r1 r4; move r2 r4; move r3 r4; call 0",
		"v1 v2 v3 v0": "move r0 r1; move r1 r2; move r2 r3; move r3 r4; move r4 r0; call 0",
		"v0 v0 v1 v2": "move r4 r3; move r3 r2; move r2 r1; call 0",
	} {
		expectWords(t, "P17.4", emitted(t, false, "(4) call 0("+args+") 1(v1)\n(2) return v1"), 0, start+want)
	}
}

// What is saved lies in slots, too, behind the parameter slots and spill slots; parameters get it from there.
func TestSavesThroughSlots(t *testing.T) {
	u := emitted(t, false, lines("(1) jump 1("+arguments(0, 10)+")", "(10) call 1(v9) 2(v8 v1 v2 v3 v4 v5 v6 v9 v0 v8)", "(11) return v0"), leaf)
	expectWords(t, "P17.4", u, 0, "addimm r14 r14 -12")
	expectWords(t, "P17.4", u, 11, "load r15 r14 0; store r15 r14 3; store r2 r14 4; store r3 r14 5; store r4 r14 6; store r5 r14 7; store r6 r14 8; store r7 r14 9; load r15 r14 1; store r15 r14 10; store r1 r14 11; "+
		"load r1 r14 1; call 46; zero r13 27; addimm r14 r14 12; return; "+
		"move r1 r0; load r2 r14 3; load r3 r14 4; load r4 r14 5; load r5 r14 6; load r6 r14 7; load r7 r14 8; load r8 r14 9; load r15 r14 10; store r15 r14 0; load r15 r14 11; store r15 r14 1; load r15 r14 3; store r15 r14 2; jump 42")
}

func TestSavesOfSlotsWithHandler(t *testing.T) {
	u := emitted(t, true, lines("(1) jump 1("+arguments(0, 9)+")", "(9) call 1(v8) 2(v8) 3(v8 v0)", "(2) return v1", "(3) return v2"), leaf)
	expectWords(t, "P17.4", u, 10, "load r15 r14 0; store r15 r14 1; store r1 r14 2; load r1 r14 0; call 31; zero r13 20; "+
		"move r1 r0; load r2 r14 1; load r3 r14 2; jump 27; move r1 r0; load r2 r14 1; jump 23; move r0 r2; const r13 0; addimm r14 r14 3; return; move r0 r3")
}

func TestReturnAndThrow(t *testing.T) {
	expectBoth(t, "P17.4", "move r0 r2; const r13 0; return", "(2) return v1")
	expectBoth(t, "P17.4", "move r0 r2; const r13 1; return", "(2) throw v1")
	expectBoth(t, "P17.4", "addimm r14 r14 -3; move r0 r1; const r13 0; addimm r14 r14 3; return", "object 0 0 3\n(2) return v0")
	expectBoth(t, "P17.4", "addimm r14 r14 -3; move r0 r1; const r13 1; addimm r14 r14 3; return", "object 0 0 3\n(2) throw v0")
	for kind, flag := range map[string]string{"return": "0", "throw": "1"} {
		u := emitted(t, false, "(1) jump 1("+arguments(0, 10)+")\n(10) "+kind+" v9")
		expectWords(t, "P17.4", u, 11, "load r0 r14 1; const r13 "+flag+"; addimm r14 r14 2; return")
	}
}

func TestTail(t *testing.T) {
	expectBoth(t, "P17.4", "jump 1; "+leafCode, "(1) tail 1(v0)", leaf)
	expectBoth(t, "P17.4", "move r0 r1; move r1 r2; move r2 r0; jump 0", "(2) tail 0(v1 v0)")
	expectBoth(t, "P17.4", leafCode+"; move r1 r2; jump 0", leaf, "(2) tail 0(v1)")
	expectBoth(t, "P17.4", "addimm r14 r14 -2; move r1 r2; addimm r14 r14 2; jump 4; "+leafCode, "object 0 0 2\n(2) tail 1(v1)", leaf)
	expectBoth(t, "P17.4", "addimm r14 r14 -2; addimm r14 r14 2; jump 0", "object 0 0 2\n(0) tail 0()")
	u := emitted(t, false, "(1) jump 1("+arguments(0, 10)+")\n(10) tail 1(v9 v0 v8)", "(3) return v2")
	expectWords(t, "P17.4", u, 11, "move r2 r1; load r1 r14 1; load r3 r14 0; addimm r14 r14 2; jump 16; move r0 r3")
}
