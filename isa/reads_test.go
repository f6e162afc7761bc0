package isa

import (
	"slices"
	"testing"

	"debugger/api"
)

func expectReads(t *testing.T, c api.Cpu, i api.Inst, addr int, reads bool) {
	t.Helper()
	if got, ok := Reads(c, i); got != addr || ok != reads {
		t.Errorf("P16.2: %+v reads %d and %t, not %d and %t, with %+v", i, got, ok, addr, reads, c)
	}
}

func TestReads(t *testing.T) {
	c := numbered()
	for op := range operations() {
		for register := range 16 {
			i := api.Inst{Op: op, A: 15 - register, B: register, C: 3, Imm: -20 - register}
			switch op {
			case api.InstPool:
				expectReads(t, c, i, -20-register, true)
			case api.InstLoad:
				expectReads(t, c, i, 1000+register-20-register, true)
			case api.InstReturn:
				expectReads(t, c, i, 1014, true)
			default:
				expectReads(t, c, i, 0, false)
			}
		}
	}
}

// Each register counts for a Load, and the stack pointer alone for a Return.
func TestReadsRegisters(t *testing.T) {
	for register := range 16 {
		c := with(api.Cpu{PC: 9}, register, 77)
		expectReads(t, c, api.Inst{Op: api.InstLoad, B: register, Imm: 5}, 82, true)
		expectReads(t, c, api.Inst{Op: api.InstLoad, A: register, B: (register + 1) % 16, C: register, Imm: 5}, 5, true)
		expectReads(t, c, api.Inst{Op: api.InstPool, A: register, B: register, C: register, Imm: 5}, 5, true)
	}
	expectReads(t, with(numbered(), api.SP, -3), api.Inst{Op: api.InstReturn, B: 2, Imm: 7}, -3, true)
}

// Instructions that have no word read addresses, too.
func TestReadsOutside(t *testing.T) {
	c := numbered()
	for _, n := range slices.Concat(outside(), immense()) {
		expectReads(t, c, api.Inst{Op: api.InstLoad, B: n, Imm: 6}, 6, true)
		expectReads(t, c, api.Inst{Op: api.InstLoad, B: n, Imm: n}, n, true)
		expectReads(t, c, api.Inst{Op: api.InstLoad, A: n, B: 2, C: n, Imm: 6}, 1008, true)
		expectReads(t, c, api.Inst{Op: api.InstLoad, B: 2, Imm: n}, 1002+n, true)
		expectReads(t, c, api.Inst{Op: api.InstPool, A: n, B: n, C: n, Imm: n}, n, true)
		expectReads(t, c, api.Inst{Op: api.InstReturn, A: n, B: n, C: n, Imm: n}, 1014, true)
		expectReads(t, c, api.Inst{Op: api.InstAdd, A: n, B: n, C: n, Imm: n}, 0, false)
	}
	for _, op := range strangers() {
		expectReads(t, c, api.Inst{Op: op, A: 1, B: 2, C: 3, Imm: 4}, 0, false)
	}
}

func TestReadsWrapAround(t *testing.T) {
	c := with(with(api.Cpu{}, 1, greatest), 2, least)
	load := func(b, n int) api.Inst { return api.Inst{Op: api.InstLoad, B: b, Imm: n} }
	expectReads(t, c, load(1, 1), least, true)
	expectReads(t, c, load(1, greatestShort), least+greatestShort-1, true)
	expectReads(t, c, load(2, -1), greatest, true)
	expectReads(t, c, load(2, leastShort), greatest+leastShort+1, true)
	expectReads(t, c, load(1, greatest), -2, true)
	expectReads(t, c, load(2, least), 0, true)
	expectReads(t, c, load(3, least), least, true)
	for _, n := range []int{least, greatest, 0} {
		expectReads(t, with(c, api.SP, n), api.Inst{Op: api.InstReturn}, n, true)
	}
}
