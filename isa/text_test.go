package isa

import (
	"strconv"
	"strings"
	"testing"

	"debugger/api"
)

func expectText(t *testing.T, i api.Inst, want string) {
	t.Helper()
	if got := Text(i); got != want {
		t.Errorf("P16.5: the text of %+v is %q, not %q", i, got, want)
	}
}

func TestTexts(t *testing.T) {
	for _, c := range []struct {
		op   int
		want string
	}{
		{api.InstNop, "nop"},
		{api.InstBreak, "break"},
		{api.InstConst, "const r10 -7"},
		{api.InstPool, "pool r10 -7"},
		{api.InstMove, "move r10 r0"},
		{api.InstAdd, "add r10 r0 r15"},
		{api.InstSub, "sub r10 r0 r15"},
		{api.InstMul, "mul r10 r0 r15"},
		{api.InstDiv, "div r10 r0 r15"},
		{api.InstMod, "mod r10 r0 r15"},
		{api.InstAnd, "and r10 r0 r15"},
		{api.InstOr, "or r10 r0 r15"},
		{api.InstXor, "xor r10 r0 r15"},
		{api.InstLess, "less r10 r0 r15"},
		{api.InstLessEq, "lesseq r10 r0 r15"},
		{api.InstEqual, "equal r10 r0 r15"},
		{api.InstNotEqual, "notequal r10 r0 r15"},
		{api.InstAddImm, "addimm r10 r0 -7"},
		{api.InstLoad, "load r10 r0 -7"},
		{api.InstStore, "store r10 r0 -7"},
		{api.InstJump, "jump -7"},
		{api.InstJumpZero, "zero r10 -7"},
		{api.InstCall, "call -7"},
		{api.InstReturn, "return"},
		{api.InstPrint, "print r10"},
	} {
		for _, n := range []int{-7, 0, 12, greatestShort, leastShort} {
			expectText(t, api.Inst{Op: c.op, A: 10, C: 15, Imm: n}, strings.Replace(c.want, "-7", strconv.Itoa(n), 1))
		}
	}
}

func TestTextNumbers(t *testing.T) {
	expectText(t, api.Inst{Op: api.InstConst}, "const r0 0")
	expectText(t, api.Inst{Op: api.InstConst, A: 15, Imm: greatestShort}, "const r15 2147483647")
	expectText(t, api.Inst{Op: api.InstPool, A: 9, Imm: leastShort}, "pool r9 -2147483648")
	expectText(t, api.Inst{Op: api.InstJump, A: 3, Imm: greatestShort}, "jump 2147483647")
	expectText(t, api.Inst{Op: api.InstCall, B: 3, Imm: leastShort}, "call -2147483648")
	expectText(t, api.Inst{Op: api.InstJumpZero, B: 3, Imm: greatestShort}, "zero r0 2147483647")
	expectText(t, api.Inst{Op: api.InstAddImm, A: 1, B: 15, C: 1, Imm: leastShort}, "addimm r1 r15 -2147483648")
	expectText(t, api.Inst{Op: api.InstLoad, A: 15, B: 1, Imm: 10}, "load r15 r1 10")
	expectText(t, api.Inst{Op: api.InstStore, A: 11, B: 12, C: 13, Imm: greatestShort}, "store r11 r12 2147483647")
	expectText(t, api.Inst{Op: api.InstXor, A: 12, B: 11, C: 9, Imm: greatestShort}, "xor r12 r11 r9")
	expectText(t, api.Inst{Op: api.InstPrint, A: 14, B: 1, C: 1, Imm: 1}, "print r14")
	expectText(t, api.Inst{Op: api.InstReturn, A: 14, B: 1, C: 1, Imm: 1}, "return")
	expectText(t, api.Inst{Op: api.InstNop, A: 14, B: 1, C: 1, Imm: 1}, "nop")
	expectText(t, api.Inst{Op: api.InstBreak, A: 14, B: 1, C: 1, Imm: leastShort}, "break")
}

func TestTextRefused(t *testing.T) {
	expectText(t, api.Inst{}, "word")
	for _, r := range refused() {
		expectText(t, r.i, "word")
	}
	expectText(t, api.Inst{Op: api.InstNop, A: 16}, "word")
	expectText(t, api.Inst{Op: api.InstReturn, Imm: greatestShort + 1}, "word")
}
