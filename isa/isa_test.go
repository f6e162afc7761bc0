package isa

import (
	"testing"

	"debugger/api"
)

func TestExamples(t *testing.T) {
	if w, e := Encode(api.Inst{Op: api.InstMove, A: 1, B: 2}); w != 5+1*256+2*65536 || e != api.OK {
		t.Errorf("example 1: the word is %d, the error %d", w, e)
	}
	if got := Text(api.Inst{Op: api.InstLoad, A: 3, B: 14, Imm: -2}); got != "load r3 r14 -2" {
		t.Errorf("example 2: the text is %q", got)
	}
	first, _ := Encode(api.Inst{Op: api.InstConst, Imm: 7})
	second, _ := Encode(api.Inst{Op: api.InstReturn})
	if o := Run([]int{first, second}, 18, 0, nil, 2); !equal(o, api.Outcome{Value: 7}) {
		t.Errorf("example 3: the outcome is %+v", o)
	}
}

// wordRow is an instruction and its word, written out by hand.
type wordRow struct {
	i api.Inst
	w int
}

func wordRows() []wordRow {
	return []wordRow{
		{api.Inst{Op: 1}, 0x01},
		{api.Inst{Op: 2}, 0x02},
		{api.Inst{Op: 3, Imm: 1}, 0x1_00000003},
		{api.Inst{Op: 4, A: 1, B: 2, C: 3, Imm: 0x12345678}, 0x12345678_03020104},
		{api.Inst{Op: 5, C: 15}, 0x0f000005},
		{api.Inst{Op: 6, A: 15, B: 14, C: 13}, 0x0d0e0f06},
		{api.Inst{Op: 7, A: 15, B: 15, C: 15, Imm: greatestShort}, 0x7fffffff_0f0f0f07},
		{api.Inst{Op: 8, Imm: -1}, -0x1_00000000 + 8},
		{api.Inst{Op: 9, A: 1, Imm: -1}, -0x1_00000000 + 0x0109},
		{api.Inst{Op: 17, B: 1, Imm: -2}, -0x2_00000000 + 0x010011},
		{api.Inst{Op: 24, A: 9, B: 8, C: 7, Imm: leastShort}, least + 0x07080918},
		{api.Inst{Op: 25, A: 15, B: 15, C: 15, Imm: leastShort}, least + 0x0f0f0f19},
		{api.Inst{Op: 25, Imm: leastShort + 1}, least + 0x1_00000019},
	}
}

func expectEncoded(t *testing.T, i api.Inst, w int) {
	t.Helper()
	if got, e := Encode(i); got != w || e != api.OK {
		t.Errorf("P16.1: the word of %+v is %x, the error %d, not %x", i, got, e, w)
	}
	if got, e := Decode(w); got != i || e != api.OK {
		t.Errorf("P16.1: the instruction of %x is %+v, the error %d, not %+v", w, got, e, i)
	}
}

func TestWords(t *testing.T) {
	for _, r := range wordRows() {
		expectEncoded(t, r.i, r.w)
	}
}

// Each operation has words with the least and greatest of each field, also of those that mean nothing for it.
func TestFields(t *testing.T) {
	for op := range operations() {
		for register := range 16 {
			expectEncoded(t, api.Inst{Op: op, A: register}, op+register*256)
			expectEncoded(t, api.Inst{Op: op, B: register}, op+register*65536)
			expectEncoded(t, api.Inst{Op: op, C: register}, op+register*16777216)
			expectEncoded(t, api.Inst{Op: op, A: register, B: 15 - register, C: register, Imm: -register}, op+register*256+(15-register)*65536+register*16777216-register*(1<<32))
		}
		for _, n := range []int{0, 1, -1, 1 << 16, greatestShort - 1, greatestShort, leastShort, leastShort + 1} {
			expectEncoded(t, api.Inst{Op: op, Imm: n}, op+n*(1<<32))
			expectEncoded(t, api.Inst{Op: op, A: 15, B: 15, C: 15, Imm: n}, op+0x0f0f0f00+n*(1<<32))
		}
	}
}

func expectRefused(t *testing.T, i api.Inst, want api.Errno) {
	t.Helper()
	if w, e := Encode(i); w != 0 || e != want {
		t.Errorf("P16.1: the word of %+v is %d, the error %d, not %d", i, w, e, want)
	}
}

func TestEncodeRefused(t *testing.T) {
	for _, r := range refused() {
		expectRefused(t, r.i, r.e)
	}
}

// Where both errors apply it is the first one, whichever field is out of its range.
func TestEncodeTwoErrors(t *testing.T) {
	for _, op := range strangers() {
		for _, n := range outside() {
			expectRefused(t, api.Inst{Op: op, A: n}, api.ErrRange)
			expectRefused(t, api.Inst{Op: op, B: n}, api.ErrRange)
			expectRefused(t, api.Inst{Op: op, C: n}, api.ErrRange)
		}
		for _, n := range immense() {
			expectRefused(t, api.Inst{Op: op, Imm: n}, api.ErrRange)
		}
	}
}

func expectNoInst(t *testing.T, w int) {
	t.Helper()
	if i, e := Decode(w); i != (api.Inst{}) || e != api.ErrForm {
		t.Errorf("P16.1: the instruction of %x is %+v, the error %d", w, i, e)
	}
}

func TestDecodeRefused(t *testing.T) {
	for op := range 256 {
		if op < 1 || op > 25 {
			expectNoInst(t, op)
			expectNoInst(t, op+0x0f0f0f00)
			expectNoInst(t, op-1<<32)
		}
	}
	for op := range operations() {
		for register := 16; register < 256; register++ {
			expectNoInst(t, op+register*256)
			expectNoInst(t, op+register*65536)
			expectNoInst(t, op+register*16777216)
			expectNoInst(t, op+register*16777216-7<<32)
		}
	}
	for _, w := range []int{0, -1, -2, -255, least, greatest, 0x1_00000000, -0x1_00000000, 0x7fffffff_00000000} {
		expectNoInst(t, w)
	}
}
