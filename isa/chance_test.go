package isa

import (
	"math/rand/v2"
	"testing"

	"debugger/api"
)

// chancer writes numbers, instructions, processors and programs by chance.
type chancer struct{ *rand.Rand }

func chance(k uint64) chancer { return chancer{rand.New(rand.NewPCG(16, k))} }

// number returns a number: a small one, one near a power of two, or any.
func (r chancer) number() int {
	switch r.IntN(4) {
	case 0:
		return r.IntN(20) - 5
	case 1:
		return 1<<r.IntN(64) + r.IntN(3) - 1
	case 2:
		return -1<<r.IntN(64) + r.IntN(3) - 1
	}
	return int(r.Uint64())
}

// register returns the number of a register, and now and then another number.
func (r chancer) register() int {
	switch r.IntN(60) {
	case 0:
		return r.number()
	case 1:
		return 16 + r.IntN(3)
	case 2:
		return -1
	}
	return r.IntN(16)
}

// inst returns an instruction, which may be one that Encode refuses.
func (r chancer) inst() api.Inst {
	i := api.Inst{Op: 1 + r.IntN(25), A: r.register(), B: r.register(), C: r.register(), Imm: int(int32(r.number()))}
	switch r.IntN(20) {
	case 0:
		i.Op = r.number()
	case 1:
		i.Imm = r.number()
	}
	return i
}

// cpu returns a processor.
func (r chancer) cpu() api.Cpu {
	c := api.Cpu{PC: r.number()}
	for n := range c.R {
		c.R[n] = r.number()
	}
	return c
}

// word returns a word that is an instruction, or is one but for a bit, or any.
func (r chancer) word() int {
	w, _ := reckonEncode(r.inst())
	switch r.IntN(4) {
	case 0:
		w ^= 1 << r.IntN(64)
	case 1:
		return int(r.Uint64())
	}
	return w
}

func TestInstructionsByChance(t *testing.T) {
	r := chance(1)
	good := map[bool]int{}
	for range 200000 {
		i, c, loaded := r.inst(), r.cpu(), r.number()
		w, e := Encode(i)
		if want, err := reckonEncode(i); w != want || e != err {
			t.Fatalf("P16.1: the word of %+v is %x, the error %d, not %x and %d", i, w, e, want, err)
		}
		good[e == api.OK]++
		if back, none := Decode(w); e == api.OK && (back != i || none != api.OK) {
			t.Fatalf("P16.1: the instruction of %x is %+v, not %+v", w, back, i)
		}
		addr, reads := Reads(c, i)
		if want, does := reckonReads(c, i); addr != want || reads != does {
			t.Fatalf("P16.2: %+v reads %d and %t, not %d and %t, with %+v", i, addr, reads, want, does, c)
		}
		f, e := Execute(c, i, loaded)
		if want, err := reckonExecute(c, i, loaded); f != want || e != err {
			t.Fatalf("P16.3: the effect of %+v is %+v and %d, not %+v and %d, with %+v and the word %d", i, f, e, want, err, c, loaded)
		}
		if text := Text(i); text != reckonText(i) {
			t.Fatalf("P16.5: the text of %+v is %q, not %q", i, text, reckonText(i))
		}
	}
	if min(good[true], good[false]) < 20000 {
		t.Errorf("only %v", good)
	}
}

func TestWordsByChance(t *testing.T) {
	r := chance(2)
	good := map[bool]int{}
	for range 200000 {
		w := r.word()
		i, e := Decode(w)
		if want, err := reckonDecode(w); i != want || e != err {
			t.Fatalf("P16.1: the instruction of %x is %+v, the error %d, not %+v and %d", w, i, e, want, err)
		}
		good[e == api.OK]++
		if back, none := Encode(i); e == api.OK && (back != w || none != api.OK) {
			t.Fatalf("P16.1: the word of %+v is %x, not %x", i, back, w)
		}
	}
	if min(good[true], good[false]) < 20000 {
		t.Errorf("only %v", good)
	}
}

// short returns the number of a register that a program uses, few of which there are so that they meet.
func (r chancer) short() int {
	switch r.IntN(16) {
	case 0:
		return r.IntN(16)
	case 1:
		return api.Flag
	}
	return r.IntN(5)
}

// line returns an instruction of a program of so many words: its jumps lead mostly to these, and its addresses are mostly those of a memory behind them.
func (r chancer) line(count int) api.Inst {
	i := api.Inst{Op: 1 + r.IntN(25), A: r.short(), B: r.short(), C: r.short(), Imm: r.IntN(count+16) - r.IntN(3)}
	switch i.Op {
	case api.InstBreak, api.InstReturn, api.InstCall:
		if r.IntN(4) > 0 {
			i.Op = api.InstPool
		}
	case api.InstJump, api.InstJumpZero:
		i.Imm = min(i.Imm, r.IntN(count+1)) - r.IntN(2)*r.IntN(2)
	case api.InstConst, api.InstAddImm:
		i.Imm = r.IntN(8) - 3
	case api.InstLoad, api.InstStore:
		switch r.IntN(3) {
		case 0:
			i.B, i.Imm = api.SP, -r.IntN(5)
		case 1:
			i.B = 7 // which is hardly ever written
		}
	}
	return i
}

// program returns the words of a program, among which are such that are no instructions.
func (r chancer) program() []int {
	words := []int{}
	count := r.IntN(30)
	for len(words) < count {
		w, e := reckonEncode(r.line(count))
		if e != api.OK || r.IntN(60) == 0 {
			w = r.word()
		}
		words = append(words, w)
	}
	if count > 0 && r.IntN(4) > 0 {
		words[count-1], _ = reckonEncode(api.Inst{Op: []int{api.InstReturn, api.InstJump}[r.IntN(2)], Imm: -r.IntN(2)})
	}
	return words
}

// tally counts how runs ended, and those with a property.
type tally struct {
	ends                         map[string]int
	thrown, printed, spoilt, own int
}

func (x *tally) count(h history) {
	x.ends[h.why]++
	if h.Thrown {
		x.thrown++
	}
	if len(h.Output) > 0 {
		x.printed++
	}
	if len(h.Output) > 0 && h.Err != api.OK {
		x.spoilt++
	}
	if h.own > 0 {
		x.own++
	}
}

// expectReckoned checks a run against the second implementation, also with just as many steps as it needs and with one fewer.
func (x *tally) expectReckoned(t *testing.T, words []int, size, entry int, args []int, steps int) {
	t.Helper()
	h := reckonRun(words, size, entry, args, steps)
	x.count(h)
	expectWords(t, words, size, entry, args, steps, h.Outcome)
	if h.why != "end" {
		return
	}
	expectWords(t, words, size, entry, args, h.steps, h.Outcome)
	if h.steps > 0 {
		fewer := reckonRun(words, size, entry, args, h.steps-1)
		expectWords(t, words, size, entry, args, h.steps-1, fuel(fewer.Output...))
	}
}

func TestRunsByChance(t *testing.T) {
	r := chance(3)
	x := &tally{ends: map[string]int{}}
	for k := 0; k < 100000 && !t.Failed(); k++ {
		words := r.program()
		size := len(words) + 16 + r.IntN(30)
		entry := r.IntN(len(words)/3 + 1)
		args := make([]int, r.IntN(5))
		for k := range args {
			args[k] = r.number()
		}
		steps := r.IntN(300)
		switch r.IntN(60) {
		case 0:
			size = len(words) + 14 + r.IntN(3)
		case 1:
			size = r.number()
		case 2:
			entry = r.number()
		case 3:
			args = make([]int, 4+r.IntN(3))
		case 4:
			steps = min(r.number(), 5000)
		}
		x.expectReckoned(t, words, size, entry, args, steps)
	}
	t.Logf("%+v", x)
	for _, why := range []string{"argument", "fuel", "counter", "word", "read", "break", "store", "end"} {
		if x.ends[why] < 500 {
			t.Errorf("only %d runs have the end %q", x.ends[why], why)
		}
	}
	if min(x.thrown, x.printed, x.spoilt, x.own) < 500 {
		t.Errorf("only %+v", x)
	}
}
