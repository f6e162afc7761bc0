package isa

import (
	"testing"

	"debugger/api"
)

// loadedWord is the word that the tests give as the one that was read.
const loadedWord = -555

func expectEffect(t *testing.T, c api.Cpu, i api.Inst, want api.Effect) {
	t.Helper()
	if got, e := Execute(c, i, loadedWord); got != want || e != api.OK {
		t.Errorf("P16.3: the effect of %+v is\n%+v with error %d, not\n%+v, with\n%+v", i, got, e, want, c)
	}
}

// next returns a processor behind an instruction that does not jump.
func next(c api.Cpu) api.Cpu {
	c.PC++
	return c
}

// at returns a processor with another program counter.
func at(c api.Cpu, pc int) api.Cpu {
	c.PC = pc
	return c
}

func TestFault(t *testing.T) {
	fault := func(i api.Inst) {
		t.Helper()
		if got, e := Execute(numbered(), i, loadedWord); got != (api.Effect{}) || e != api.ErrFault {
			t.Errorf("P16.3: the effect of %+v is %+v, the error %d", i, got, e)
		}
	}
	fault(api.Inst{Op: api.InstBreak})
	fault(api.Inst{Op: api.InstBreak, A: 1, B: 2, C: 3, Imm: 4})
	fault(api.Inst{})
	for _, r := range refused() {
		fault(r.i)
	}
}

// Each instruction changes one register, with all numbers of registers, the stack pointer and R0 too.
func TestRegisters(t *testing.T) {
	c := numbered()
	for a := range 16 {
		for b := range 16 {
			fill := func(op int) api.Inst { return api.Inst{Op: op, A: a, B: b, C: 15 - a, Imm: -9} }
			expectEffect(t, c, fill(api.InstNop), api.Effect{Cpu: next(c)})
			expectEffect(t, c, fill(api.InstConst), api.Effect{Cpu: with(next(c), a, -9)})
			expectEffect(t, c, fill(api.InstPool), api.Effect{Cpu: with(next(c), a, loadedWord)})
			expectEffect(t, c, fill(api.InstMove), api.Effect{Cpu: with(next(c), a, 1000+b)})
			expectEffect(t, c, fill(api.InstAddImm), api.Effect{Cpu: with(next(c), a, 991+b)})
			expectEffect(t, c, fill(api.InstLoad), api.Effect{Cpu: with(next(c), a, loadedWord)})
			expectEffect(t, c, fill(api.InstStore), api.Effect{Cpu: next(c), Stores: true, Addr: 991 + b, Word: 1000 + a})
			expectEffect(t, c, fill(api.InstPrint), api.Effect{Cpu: next(c), Prints: true, Print: 1000 + a})
			expectEffect(t, c, fill(api.InstJump), api.Effect{Cpu: at(c, -9)})
			expectEffect(t, c, fill(api.InstJumpZero), api.Effect{Cpu: next(c)})
			expectEffect(t, with(c, a, 0), fill(api.InstJumpZero), api.Effect{Cpu: at(with(c, a, 0), -9)})
			expectEffect(t, c, fill(api.InstCall), api.Effect{Cpu: at(with(c, api.SP, 1013), -9), Stores: true, Addr: 1013, Word: 51})
			expectEffect(t, c, fill(api.InstReturn), api.Effect{Cpu: at(with(c, api.SP, 1015), loadedWord)})
		}
	}
}

// An instruction that stores or prints nothing has zero fields, and one that stores or prints a zero says that it does.
func TestZeros(t *testing.T) {
	zero := api.Cpu{PC: -1}
	expectEffect(t, zero, inst(t, "store r0 r1 0"), api.Effect{Cpu: next(zero), Stores: true})
	expectEffect(t, zero, inst(t, "print r0"), api.Effect{Cpu: next(zero), Prints: true})
	expectEffect(t, zero, inst(t, "call 0"), api.Effect{Cpu: with(next(zero), api.SP, -1), Stores: true, Addr: -1})
	expectEffect(t, zero, inst(t, "const r0 0"), api.Effect{Cpu: next(zero)})
	expectEffect(t, with(zero, 3, 1), inst(t, "zero r3 9"), api.Effect{Cpu: with(next(zero), 3, 1)})
	expectEffect(t, with(zero, 3, least), inst(t, "zero r3 9"), api.Effect{Cpu: with(next(zero), 3, least)})
	expectEffect(t, with(zero, 3, 1<<32), inst(t, "zero r3 9"), api.Effect{Cpu: with(next(zero), 3, 1<<32)})
	expectEffect(t, zero, inst(t, "zero r3 0"), api.Effect{Cpu: api.Cpu{}})
}

// The program counter is one higher also where that wraps around, and elsewhere in the numbers.
func TestProgramCounter(t *testing.T) {
	for _, pc := range []int{least, -2, -1, 0, greatest - 1, greatest} {
		c := at(numbered(), pc)
		behind := pc + 1
		for op := range operations() {
			i := api.Inst{Op: op, A: 1, B: 1, C: 1, Imm: 4}
			got, e := Execute(c, i, loadedWord)
			want := behind
			switch op {
			case api.InstBreak:
				continue
			case api.InstJump, api.InstCall:
				want = 4
			case api.InstReturn:
				want = loadedWord
			}
			if got.Cpu.PC != want || e != api.OK {
				t.Errorf("P16.3: PC is %d behind %+v at %d, not %d", got.Cpu.PC, i, pc, want)
			}
			if op == api.InstCall && got.Word != behind {
				t.Errorf("P16.3: %d is stored by a Call at %d", got.Word, pc)
			}
		}
	}
}

// Imm and the addresses wrap around, and so does the stack pointer.
func TestExecuteWrapAround(t *testing.T) {
	c := numbered()
	high, low := with(c, 2, greatest), with(c, 2, least)
	expectEffect(t, high, inst(t, "addimm r1 r2 1"), api.Effect{Cpu: with(next(high), 1, least)})
	expectEffect(t, low, inst(t, "addimm r2 r2 -1"), api.Effect{Cpu: next(high)})
	expectEffect(t, low, inst(t, "addimm r1 r2 -2147483648"), api.Effect{Cpu: with(next(low), 1, greatest-greatestShort)})
	expectEffect(t, high, inst(t, "store r1 r2 2147483647"), api.Effect{Cpu: next(high), Stores: true, Addr: least + greatestShort - 1, Word: 1001})
	expectEffect(t, low, inst(t, "store r2 r2 -1"), api.Effect{Cpu: next(low), Stores: true, Addr: greatest, Word: least})
	bottom, top := with(c, api.SP, least), with(c, api.SP, greatest)
	expectEffect(t, bottom, inst(t, "call 3"), api.Effect{Cpu: at(top, 3), Stores: true, Addr: greatest, Word: 51})
	expectEffect(t, top, inst(t, "return"), api.Effect{Cpu: at(bottom, loadedWord)})
}

func TestGreatestImm(t *testing.T) {
	c := numbered()
	for _, n := range []int{leastShort, -1, 0, 1, greatestShort} {
		expectEffect(t, c, api.Inst{Op: api.InstConst, A: 4, Imm: n}, api.Effect{Cpu: with(next(c), 4, n)})
		expectEffect(t, c, api.Inst{Op: api.InstJump, Imm: n}, api.Effect{Cpu: at(c, n)})
		expectEffect(t, with(c, 4, 0), api.Inst{Op: api.InstJumpZero, A: 4, Imm: n}, api.Effect{Cpu: at(with(c, 4, 0), n)})
		expectEffect(t, c, api.Inst{Op: api.InstCall, Imm: n}, api.Effect{Cpu: at(with(c, api.SP, 1013), n), Stores: true, Addr: 1013, Word: 51})
		expectEffect(t, c, api.Inst{Op: api.InstAddImm, A: 4, B: 5, Imm: n}, api.Effect{Cpu: with(next(c), 4, 1005+n)})
		expectEffect(t, c, api.Inst{Op: api.InstStore, A: 4, B: 5, Imm: n}, api.Effect{Cpu: next(c), Stores: true, Addr: 1005 + n, Word: 1004})
	}
}

// Only a Pool, a Load and a Return depend on the word that was read.
func TestLoaded(t *testing.T) {
	for op := range operations() {
		i := api.Inst{Op: op, A: 1, B: 2, C: 3, Imm: 4}
		first, _ := Execute(numbered(), i, 1)
		second, _ := Execute(numbered(), i, least)
		reads := op == api.InstPool || op == api.InstLoad || op == api.InstReturn
		if (first != second) != reads {
			t.Errorf("P16.3: behind %+v is\n%+v, or\n%+v", i, first, second)
		}
	}
}

// A Return undoes what a Call does to the stack pointer, and goes on behind it.
func TestCallAndReturn(t *testing.T) {
	for _, sp := range []int{1014, 0, least, greatest} {
		c := with(numbered(), api.SP, sp)
		call, e := Execute(c, inst(t, "call 700"), 0)
		if e != api.OK || !call.Stores || call.Cpu != at(with(c, api.SP, sp-1), 700) {
			t.Fatalf("P16.3: the effect of the Call is %+v", call)
		}
		addr, reads := Reads(call.Cpu, inst(t, "return"))
		if addr != call.Addr || !reads {
			t.Errorf("P16.2: the Return reads %d and %t, and the Call stores to %d", addr, reads, call.Addr)
		}
		back, e := Execute(call.Cpu, inst(t, "return"), call.Word)
		if e != api.OK || back != (api.Effect{Cpu: next(c)}) {
			t.Errorf("P16.3: behind the Return is %+v, not %+v", back, next(c))
		}
	}
}
