package emit

import (
	"strings"
	"testing"
)

// expectRanges checks the ranges of the first function.
func expectRanges(t *testing.T, promise string, keep bool, want string, texts ...string) {
	t.Helper()
	u := emitted(t, keep, texts...)
	if got := ranges(u.Funcs[0]); got != want {
		t.Errorf("%s: with keep %t the ranges are\n%s, not\n%s, in\n%s", promise, keep, got, want, shown(u.Words))
	}
}

// expectKnown checks what is known without keep, as ranges of the first function.
func expectKnown(t *testing.T, want string, texts ...string) {
	t.Helper()
	expectRanges(t, "P17.6", false, want, texts...)
}

// second returns a function whose block 1, from address 1 on if there is no frame, has the parameters of block 0 in their places; other blocks may follow it.
func second(params int, ops string, more ...string) string {
	args := each(0, params, func(v int) string { return number("v", v) + " " })
	head := number("(", params) + ") "
	return lines(append([]string{head + "jump 1(" + args + ")", head + ops}, more...)...)
}

// A parameter lies in its place at the beginning of a block.
func TestParameters(t *testing.T) {
	expectKnown(t, "1-4 0: r1; 1-4 1: r4", second(4, "bind 0 to v0; bind 1 to v3; at 3; return v0"))
	expectKnown(t, "11-14 0: r8; 11-14 1: s0; 11-14 2: s1",
		lines("(1) jump 1("+arguments(0, 10)+")", "(10) bind 0 to v7; bind 1 to v8; bind 2 to v9; at 3; return v0"))
}

// Nothing else is known at the beginning of a block.
func TestBeginning(t *testing.T) {
	expectKnown(t, "5-8 0: r1", "(1) v1 = 5; print v1; jump 1(v0)\n(1) bind 0 to v1; at 3; print v0; v1 = 6; return v1")
}

// An instruction that writes a register removes what lay there, and not what lies elsewhere.
func TestOverwrittenRegister(t *testing.T) {
	for _, definition := range strings.Split("5, 99999999999, copy v1, v1 + v1, v1 - v1, v1 * v1, v1 / v1, v1 % v1, v1 & v1, v1 | v1, v1 ^ v1, v1 < v1, v1 <= v1, v1 == v1, v1 != v1", ", ") {
		expectKnown(t, "1-2 0: r1; 1-5 1: r2; 2-5 2: r1", second(2, "bind 0 to v0; bind 1 to v1; bind 2 to v2; at 3; v2 = "+definition+"; return v2"))
	}
	expectKnown(t, "2-4 0: r1; 2-7 1: r2; 4-7 2: r1", "object 0 0 2\n"+second(2, "bind 0 to v0; bind 1 to v1; bind 2 to v2; at 3; v2 = load 0 v1; return v2"))
}

// A Store with SP that writes a slot removes what lay there.
func TestOverwrittenSlot(t *testing.T) {
	text := crowded("bind 0 to v15; bind 1 to v16; at 3; v15 = 7; v16 = 8; print v16", 15)
	expectWords(t, "P17.6", emitted(t, false, text), crowdedOps, "const r15 7; store r15 r14 3; const r15 8; store r15 r14 3; load r15 r14 3; print r15; print r1")
	expectKnown(t, "18-20 0: s3; 20-43 1: s3", text)
}

// Instructions that write neither a register nor a slot of a value remove nothing.
func TestReading(t *testing.T) {
	text := second(2, "bind 0 to v0; at 3; print v0; mark 4; branch v1 1(v0 v0) 1(v0 v1)")
	expectKnown(t, "1-4 0: r1; 4-5 0: r1 r2; 5-6 0: r1", text)
	expectRanges(t, "P17.6", true, "1-5 0: r1; 5-6 0: r1 r2; 6-7 0: r1", text)
	expectKnown(t, "16-44 0: s0; 16-44 1: r2", crowded("bind 0 to v8; bind 1 to v1; at 3; store 0 v9 v10; at 4; zero 0; at 5", 15, "object 0 0 2"))
}

// A value lies in its place behind the instruction that defines it, which is the Store if that is a slot.
func TestDefined(t *testing.T) {
	expectKnown(t, "2-6 0: r1", second(2, "bind 0 to v2; at 3; v2 = v0 + v1; print v2; return v2"))
	for definition, behind := range map[string]string{"7": "18", "99999999999": "18", "copy v3": "17", "copy v9": "18", "v1 + v2": "18", "v8 + v9": "20"} {
		u := emitted(t, false, crowded("bind 0 to v15; at 3; v15 = "+definition, 16))
		expectText(t, "P17.6", ranges(u.Funcs[0]), behind+number("-", u.Code-1)+" 0: s3")
	}
	u := emitted(t, false, crowded("bind 0 to v15; at 3; v15 = load 0 v8", 16, "object 0 0 2"))
	expectText(t, "P17.6", ranges(u.Funcs[0]), number("20-", u.Code-1)+" 0: s3")
}

// A Copy adds no place beside its destination, also if this is where its operand lay.
func TestCopied(t *testing.T) {
	expectKnown(t, "1-6 0: r1; 2-6 1: r2", second(1, "bind 0 to v0; bind 1 to v1; at 3; v1 = copy v0; print v0; return v1"))
	expectKnown(t, "1-2 0: r1; 2-5 1: r1", second(1, "bind 0 to v0; bind 1 to v1; at 3; v1 = copy v0; return v1"))
	expectKnown(t, "16-40 0: r3; 17-40 1: s3", crowded("bind 0 to v2; bind 1 to v15; at 3; v15 = copy v2", 16))
	expectKnown(t, "16-38 0: s1; 18-38 1: r12", crowded("bind 0 to v9; bind 1 to v15; at 3; v15 = copy v9", 14))
}

// Behind a transfer its target holds what its source held, and nothing that is known if the source is R0.
func TestMoved(t *testing.T) {
	expectKnown(t, "1-2 0: r1; 1-4 1: r2; 2-4 0: r1 r3; 4-6 0: r3; 4-5 1: r1 r2; 5-6 1: r1",
		second(2, "bind 0 to v0; bind 1 to v1; at 3; jump 2(v1 v0 v0)", "(3) return v0"))
	text := strings.Replace(moved(t, "0=8 8=9 9=8"), "(12) jump", "(12) bind 0 to v0; bind 1 to v8; bind 2 to v9; at 3; jump", 1)
	expectWords(t, "P17.6", emitted(t, false, text), movedAt, "load r1 r14 0; load r0 r14 0; load r15 r14 1; store r15 r14 0; store r0 r14 1; jump 19")
	expectKnown(t, "13-14 0: r1; 13-14 1: s0; 13-17 2: s1; 14-17 1: s0 r1; 17-19 1: r1; 17-18 2: s0 s1; 18-19 2: s0", text)
}

// A transfer between slots goes through R15: the target holds it behind the Store.
func TestMovedBetweenSlots(t *testing.T) {
	text := strings.Replace(moved(t, "10=9"), "(12) jump", "(12) bind 0 to v9; bind 1 to v10; at 3; jump", 1)
	expectKnown(t, "13-15 0: s1; 13-15 1: s2; 15-16 0: s1 s2", text)
}

// R0 and R15 never count.
func TestScratch(t *testing.T) {
	expectKnown(t, "1-4 0: r2", second(2, "bind 0 to v1; at 3; return v1"))
	expectKnown(t, "16-43 0: s0; 16-43 1: s1", crowded("bind 0 to v8; bind 1 to v9; at 3; v15 = v8 + v9", 16))
}

// Values are known in their save slots, and arguments in their registers up to the Call, which removes everything from registers; what is loaded behind it is known again.
func TestCalled(t *testing.T) {
	text := second(2, "bind 0 to v0; bind 1 to v1; at 3; call 1(v1) 2(v0) 3(v0 v1)", "(2) return v0", "(3) return v0")
	expectWords(t, "P17.6", emitted(t, false, text, leaf), 2, "store r1 r14 0; store r2 r14 1; move r1 r2; call 22; zero r13 11; move r1 r0; load r2 r14 0; load r3 r14 1; jump 18; move r1 r0; load r2 r14 0; jump 14")
	expectKnown(t, "2-3 0: r1; 2-4 1: r2; 3-5 0: s0 r1; 4-5 1: s1 r2; 5-9 0: s0; 5-6 1: s1 r1 r2; 6-10 1: s1; 9-11 0: s0 r2; 10-11 1: s1 r3; 11-13 0: s0; 11-14 1: s1; 13-14 0: s0 r2", text, leaf)
	expectKnown(t, "10-14 0: s0; 10-11 1: r2; 11-12 1: r1 r2; 15-17 0: s0",
		lines("(1) jump 1("+arguments(0, 9)+")", "(9) bind 0 to v8; bind 1 to v1; at 3; call 1(v1) 2()", "(1) return v0"), leaf)
}

// At the normal part what is known is what was known behind the instruction that leads there, not what the AddImm left.
func TestNormalPart(t *testing.T) {
	expectKnown(t, "2-3 0: r1; 3-4 0: s0 r1; 4-7 0: s0; 8-10 0: s0; 10-11 0: s0 r2",
		second(2, "bind 0 to v0; at 3; call 1(v1) 2(v0)", "(2) return v0"), leaf)
}

// In the second part of a Branch the moves of the first one are forgotten.
func TestSecondPart(t *testing.T) {
	expectKnown(t, "1-3 0: r1; 1-3 1: r2; 3-4 1: r1 r2; 4-5 0: r1; 4-5 1: r2",
		second(2, "bind 0 to v0; bind 1 to v1; at 3; branch v0 2(v1) 2(v0)", "(1) return v0"))
	expectKnown(t, "1-4 0: r1; 1-4 1: r2; 4-5 1: r1 r2",
		second(2, "bind 0 to v0; bind 1 to v1; at 3; branch v0 2(v0) 2(v1)", "(1) return v0"))
}
