package emit

import (
	"strings"
	"testing"

	"debugger/api"
	"debugger/ir"
	"debugger/passes"
)

// expectOps checks the code of the operations of a crowded function, with all registers taken (and value 15 in slot 3) or with R12 free for value 15.
func expectOps(t *testing.T, ops string, free bool, want string, objects ...string) {
	t.Helper()
	for _, keep := range []bool{false, true} {
		last := 15
		if free {
			last = 14
		}
		u := emitted(t, keep, crowded(ops, last, objects...))
		expectWords(t, "P17.3", u, crowdedOps, want+"; print r1; print r2; print r3")
	}
}

// expectValue checks the code of an operation that defines value 15, in a slot and in a register; D is that in the text of the instruction.
func expectValue(t *testing.T, op, want string, objects ...string) {
	t.Helper()
	expectOps(t, op, false, strings.ReplaceAll(want, "D", "r15")+"; store r15 r14 3", objects...)
	expectOps(t, op, true, strings.ReplaceAll(want, "D", "r12"), objects...)
}

func TestConst(t *testing.T) {
	expectValue(t, "v15 = 7", "const D 7")
	expectValue(t, "v15 = -2147483648", "const D -2147483648")
}

func TestCopy(t *testing.T) {
	expectOps(t, "v15 = copy v2", false, "store r3 r14 3")
	expectOps(t, "v15 = copy v2", true, "move r12 r3")
	expectOps(t, "v15 = copy v10", false, "load r15 r14 2; store r15 r14 3")
	expectOps(t, "v15 = copy v10", true, "load r15 r14 2; move r12 r15")
}

// A Copy is no transfer: it moves a register into itself.
func TestCopyToSamePlace(t *testing.T) {
	expectBoth(t, "P17.3", "move r1 r1; move r1 r1; move r0 r1; const r13 0; return", "(1) v1 = copy v0; v2 = copy v1; return v2")
	slots := "(1) jump 1(" + arguments(0, 12) + ")\n(12) " + constants(12, 16) + "v16 = 7; print v16; v17 = 8; v18 = copy v17; " + prints(0, 16) + "return v18"
	u := emitted(t, false, slots)
	expectWords(t, "P17.3", u, 17, "const r15 7; store r15 r14 4; load r15 r14 4; print r15; const r15 8; store r15 r14 4; load r15 r14 4; store r15 r14 4; print r1")
}

func TestBinary(t *testing.T) {
	for k, name := range strings.Fields("add sub mul div mod and or xor less lesseq equal notequal") {
		sign := strings.Fields("+ - * / % & | ^ < <= == !=")[k]
		for operands, want := range map[string]string{
			"v1 ? v6":   "? D r2 r7",
			"v6 ? v1":   "? D r7 r2",
			"v4 ? v4":   "? D r5 r5",
			"v8 ? v1":   "load r15 r14 0; ? D r15 r2",
			"v1 ? v8":   "load r0 r14 0; ? D r2 r0",
			"v9 ? v10":  "load r15 r14 1; load r0 r14 2; ? D r15 r0",
			"v10 ? v10": "load r15 r14 2; load r0 r14 2; ? D r15 r0",
			"v0 ? v11":  "? D r1 r9",
		} {
			expectValue(t, "v15 = "+strings.Replace(operands, "?", sign, 1), strings.Replace(want, "?", name, 1))
		}
	}
}

// The objects lie in the slots 3 to 5 and 6 to 7, or one higher if value 15 is in slot 3.
func TestLoad(t *testing.T) {
	a, b := "object 0 0 3", "object 0 1 2"
	expectOps(t, "v15 = load 0 v2", true, "add r15 r14 r3; load r12 r15 3", a, b)
	expectOps(t, "v15 = load 1 v2", true, "add r15 r14 r3; load r12 r15 6", a, b)
	expectOps(t, "v15 = load 0 v9", true, "load r15 r14 1; add r15 r14 r15; load r12 r15 3", a, b)
	expectOps(t, "v15 = load 1 v2", false, "add r15 r14 r3; load r15 r15 7; store r15 r14 3", a, b)
	expectOps(t, "v15 = load 0 v9", false, "load r15 r14 1; add r15 r14 r15; load r15 r15 4; store r15 r14 3", a, b)
}

func TestStore(t *testing.T) {
	a, b := "object 0 0 3", "object 0 1 2"
	expectOps(t, "store 0 v1 v4", true, "add r15 r14 r2; store r5 r15 3", a, b)
	expectOps(t, "store 1 v1 v4", false, "add r15 r14 r2; store r5 r15 6", a, b)
	expectOps(t, "store 0 v10 v4", true, "load r15 r14 2; add r15 r14 r15; store r5 r15 3", a, b)
	expectOps(t, "store 0 v1 v10", true, "add r15 r14 r2; load r0 r14 2; store r0 r15 3", a, b)
	expectOps(t, "store 1 v10 v9", true, "load r15 r14 2; add r15 r14 r15; load r0 r14 1; store r0 r15 6", a, b)
	expectOps(t, "store 1 v8 v8", true, "load r15 r14 0; add r15 r14 r15; load r0 r14 0; store r0 r15 6", a, b)
	expectOps(t, "store 0 v3 v3", true, "add r15 r14 r4; store r4 r15 3", a, b)
}

func TestZero(t *testing.T) {
	a, b := "object 0 0 3", "object 0 1 1"
	expectOps(t, "zero 0", true, "const r15 0; store r15 r14 3; store r15 r14 4; store r15 r14 5", a, b)
	expectOps(t, "zero 1", true, "const r15 0; store r15 r14 6", a, b)
	expectOps(t, "zero 0", false, "const r15 0; "+each(3, 11, func(n int) string { return number("store r15 r14 ", n) + "; " }), "object 0 0 8")
}

func TestPrint(t *testing.T) {
	expectOps(t, "print v7", true, "print r8")
	expectOps(t, "print v14", false, "print r12")
	expectOps(t, "print v9", true, "load r15 r14 1; print r15")
}

// Only a Mark with keep has an instruction of its own.
func TestMarks(t *testing.T) {
	text := "(1) bind 0 to v0; mark 3; print v0; at 4; bind 0 to v0 + 1; mark 5; mark 6; at 6; return v0"
	expectCode(t, "P17.3", false, "print r1; move r0 r1; const r13 0; return", "", text)
	expectCode(t, "P17.3", true, "nop; print r1; nop; nop; move r0 r1; const r13 0; return", "", text)
}

// A function with a frame begins with its allocation, and one without has none.
func TestPrologue(t *testing.T) {
	expectBoth(t, "P17.3", "move r0 r1; const r13 0; return", "(1) return v0")
	expectBoth(t, "P17.3", "addimm r14 r14 -1; move r0 r1; const r13 0; addimm r14 r14 1; return", "object 0 0 1\n(1) return v0")
	expectBoth(t, "P17.3", "addimm r14 r14 -13; move r0 r1; const r13 0; addimm r14 r14 13; return", "object 0 0 5\nobject 0 1 8\n(1) return v0")
}

// The instructions have the fields that they use: every word is that of its text.
func TestOtherFields(t *testing.T) {
	c := passes.Parse(t, passes.Sound)
	m := api.Module{Funcs: []api.Code{c}}
	if e := ir.Check(m); e != api.OK {
		t.Fatalf("the error is %d", e)
	}
	for _, keep := range []bool{false, true} {
		u, _ := result(t, m, keep)
		expectWords(t, "P17.1", u, 0, shown(u.Words))
	}
}
