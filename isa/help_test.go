package isa

import (
	"iter"
	"slices"
	"testing"

	"debugger/api"
	"debugger/assembly"
)

const (
	greatest      = 1<<63 - 1
	least         = -1 << 63
	greatestShort = 1<<31 - 1 // of 32 bits
	leastShort    = -1 << 31
)

// operations goes through the operations that there are.
func operations() iter.Seq[int] {
	return func(yield func(int) bool) {
		for op := 1; op <= 25 && yield(op); op++ {
		}
	}
}

// strangers returns numbers that are no operations.
func strangers() []int {
	return []int{0, -1, 26, 27, 127, 128, 255, 256, 257, 256 + 5, 1 << 32, 1<<32 + 1, -255, -1 << 32, least, least + 1, greatest}
}

// outside returns numbers that are no registers.
func outside() []int {
	return []int{-1, 16, 17, -16, 127, 128, 255, 256, 257, 1 << 32, 1<<32 + 1, -1 << 32, least, greatest}
}

// immense returns numbers that do not have 32 bits.
func immense() []int {
	return []int{greatestShort + 1, leastShort - 1, 1<<32 - 1, 1 << 32, -1 << 32, 1<<63 - 1<<32, least, greatest}
}

// refusal is an instruction that Encode refuses, with the error.
type refusal struct {
	i api.Inst
	e api.Errno
}

// refused returns instructions that Encode refuses.
func refused() []refusal {
	l := []refusal{}
	for op := range operations() {
		for _, n := range outside() {
			for _, i := range []api.Inst{{Op: op, A: n}, {Op: op, B: n}, {Op: op, C: n}} {
				l = append(l, refusal{i, api.ErrRange})
			}
		}
		for _, n := range immense() {
			l = append(l, refusal{api.Inst{Op: op, Imm: n}, api.ErrRange})
		}
	}
	for _, op := range strangers() {
		l = append(l, refusal{api.Inst{Op: op}, api.ErrForm}, refusal{api.Inst{Op: op, A: 15, B: 15, C: 15, Imm: -1}, api.ErrForm})
	}
	return l
}

// numbered returns a processor whose registers all differ.
func numbered() api.Cpu {
	c := api.Cpu{PC: 50}
	for n := range c.R {
		c.R[n] = 1000 + n
	}
	return c
}

// with returns a processor in which a register has another number.
func with(c api.Cpu, register, n int) api.Cpu {
	c.R[register] = n
	return c
}

// words returns the words of a text of package assembly.
func words(t *testing.T, text string) []int {
	t.Helper()
	w, ok := assembly.Words(text)
	if !ok {
		t.Fatalf("there are no words for %q", text)
	}
	return w
}

// inst returns the instruction of a text.
func inst(t *testing.T, text string) api.Inst {
	t.Helper()
	w := words(t, text)
	i, e := Decode(w[0])
	if len(w) != 1 || e != api.OK {
		t.Fatalf("%q is not one instruction, or its error is %d", text, e)
	}
	return i
}

// equal tells whether two outcomes are the same; a nil and an empty output are.
func equal(a, b api.Outcome) bool {
	return a.Err == b.Err && a.Thrown == b.Thrown && a.Value == b.Value && slices.Equal(a.Output, b.Output)
}
