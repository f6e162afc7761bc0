package emit

import (
	"strings"
	"testing"

	"debugger/api"
	"debugger/ir"
	"debugger/passes"
)

// expectLimit checks whether a module is within the limits, and returns its unit.
func expectLimit(t *testing.T, about string, m api.Module, keep, within bool) api.Unit {
	t.Helper()
	if e := ir.Check(m); e != api.OK {
		t.Fatalf("%s: the error of ir.Check is %d", about, e)
	}
	u, e := result(t, m, keep)
	if !within && (e != api.ErrLimit || u.Words != nil || u.Funcs != nil || u.Code != 0) || within && e != api.OK {
		t.Fatalf("P17.1: %s: the error is %d with %d words", about, e, len(u.Words))
	}
	return u
}

// module returns the module of some functions.
func module(codes ...api.Code) api.Module {
	for f := range codes {
		codes[f].Contexts[0].Func = f
	}
	return api.Module{Funcs: codes}
}

// printing returns a code of so many words without a frame.
func printing(t *testing.T, words int) api.Code {
	return passes.Parse(t, "(1) "+strings.Repeat("print v0; ", words-3)+"return v0")
}

// pooling returns a code that needs so many constants of the pool, from a number on, and so many words.
func pooling(t *testing.T, constants, from, words int) api.Code {
	c := printing(t, words-constants)
	ops := []api.Op{}
	for k := range constants {
		ops = append(ops, api.Op{Kind: api.OpConst, Dst: 1 + k, N: 1<<40 + from + k})
	}
	c.Blocks[0].Ops = append(ops, c.Blocks[0].Ops...)
	return c
}

func TestMostWords(t *testing.T) {
	for _, keep := range []bool{false, true} {
		for _, c := range []struct {
			about string
			m     func(more int) api.Module
			code  int
		}{
			{"code alone", func(more int) api.Module { return module(printing(t, 5000), printing(t, 3000+more)) }, 8000},
			{"code of many functions", func(more int) api.Module {
				return module(printing(t, 1000), printing(t, 1000), printing(t, 1000), printing(t, 1000), printing(t, 1000), printing(t, 1000), printing(t, 1000+more), printing(t, 1000))
			}, 8000},
			{"code and pool", func(more int) api.Module { return module(pooling(t, 2500, 0, 4000), printing(t, 1500+more)) }, 5500},
			{"the same constants", func(more int) api.Module {
				return module(pooling(t, 1000, 0, 4000), pooling(t, 1000, 0, 3000+more))
			}, 7000},
		} {
			u := expectLimit(t, c.about, c.m(0), keep, true)
			if len(u.Words) != 8000 || u.Code != c.code {
				t.Errorf("%s: %d words, %d of code", c.about, len(u.Words), u.Code)
			}
			expectLimit(t, c.about, c.m(-1), keep, true)
			expectLimit(t, c.about, c.m(1), keep, false)
		}
	}
}

// A constant that is not in the pool yet is one word more than one that is.
func TestLastConstant(t *testing.T) {
	for _, keep := range []bool{false, true} {
		expectLimit(t, "a constant that is there", module(pooling(t, 1000, 0, 4000), pooling(t, 1, 999, 3000)), keep, true)
		expectLimit(t, "another constant", module(pooling(t, 1000, 0, 4000), pooling(t, 1, 1000, 3000)), keep, false)
		expectLimit(t, "another constant, and a word less", module(pooling(t, 1000, 0, 4000), pooling(t, 1, 1000, 2999)), keep, true)
	}
}

// Every word of code may have a row of its own; there are as many rows as words at most.
func TestMostRows(t *testing.T) {
	marks := func(blocks, marks int) api.Code {
		c := passes.Parse(t, "(0) jump 1()"+strings.Repeat("\n(0) jump 1()", blocks-1))
		for n := range marks {
			c.Blocks[0].Ops = append(c.Blocks[0].Ops, api.Op{Kind: api.OpMark, N: n % 9999})
		}
		c.Blocks[0].Ops = append(c.Blocks[0].Ops, api.Op{Kind: api.OpAt}) // at the address of the jump
		return c
	}
	u := expectLimit(t, "a row for each word", module(marks(400, 4600), marks(10, 2990)), true, true)
	if n := len(u.Funcs[0].Rows) + len(u.Funcs[1].Rows); n != api.MaxRows || u.Code != api.MaxRows {
		t.Errorf("%d rows for %d words", n, u.Code)
	}
	expectLimit(t, "one row more", module(marks(400, 4600), marks(10, 2991)), true, false)
	expectLimit(t, "one row more", module(marks(400, 4600), marks(11, 2990)), true, false)
	u = expectLimit(t, "Marks at one address", module(marks(400, 5600), marks(10, 5990)), false, true)
	if n := len(u.Funcs[0].Rows) + len(u.Funcs[1].Rows); n != 410 {
		t.Errorf("%d rows", n)
	}
}

// binding returns a code with so many pieces that are bound to constants, which are shown at so many words, all with the same places, or with others at each Mark.
func binding(t *testing.T, pieces, words int) api.Code {
	c := printing(t, words)
	for len(c.Contexts) < 64 {
		c.Contexts = append(c.Contexts, api.Context{})
	}
	ops := []api.Op{}
	for k := range pieces {
		ops = append(ops, api.Op{Kind: api.OpBind, Ctx: k / 96, Var: k / 4 % 24, Piece: k % 4, Src: api.Src{Kind: api.SrcConstant, Add: k}})
	}
	c.Blocks[0].Ops = append(append(ops, api.Op{Kind: api.OpAt}), c.Blocks[0].Ops...)
	return c
}

func TestMostRanges(t *testing.T) {
	for _, keep := range []bool{false, true} {
		u := expectLimit(t, "ranges of two functions", module(binding(t, 5000, 10), binding(t, 3000, 10)), keep, true)
		if n := len(u.Funcs[0].Ranges) + len(u.Funcs[1].Ranges); n != api.MaxRows {
			t.Errorf("%d ranges", n)
		}
		expectLimit(t, "one range more", module(binding(t, 5000, 10), binding(t, 3001, 10)), keep, false)
		expectLimit(t, "one range more", module(binding(t, 5001, 10), binding(t, 3000, 10)), keep, false)
	}
}

// Ranges count that begin at one address after the other, too.
func TestMostRangesInTurn(t *testing.T) {
	turns := func(count int) api.Code {
		c := printing(t, 4)
		ops := []api.Op{}
		for k := range count {
			ops = append(ops, api.Op{Kind: api.OpBind, Src: api.Src{Kind: api.SrcConstant, Add: k}}, api.Op{Kind: api.OpAt}, api.Op{Kind: api.OpPrint})
		}
		c.Blocks[0].Ops = append(ops, c.Blocks[0].Ops...)
		return c
	}
	for _, keep := range []bool{false, true} {
		u := expectLimit(t, "ranges in turn", module(turns(1900), binding(t, 5000, 10), binding(t, 1100, 10)), keep, true)
		if n := len(u.Funcs[0].Ranges); n != 1900 {
			t.Errorf("%d ranges", n)
		}
		expectLimit(t, "one range more", module(turns(1901), binding(t, 5000, 10), binding(t, 1100, 10)), keep, false)
	}
}

// framed returns a code whose frame has 991 parameter slots, so many spill slots, which a Mark needs with keep, and objects of so many words.
func framed(t *testing.T, spills, objects int) api.Code {
	c := passes.Parse(t, lines("(1) v1 = 1; return v1", "(999) return v0"))
	for len(c.Contexts) < 64 {
		c.Contexts = append(c.Contexts, api.Context{})
	}
	ops, binds := []api.Op{}, []api.Op{}
	for k := range spills + api.LastValue {
		ops = append(ops, api.Op{Kind: api.OpConst, Dst: 1 + k, N: 1})
		binds = append(binds, api.Op{Kind: api.OpBind, Ctx: k / 96, Var: k / 4 % 24, Piece: k % 4, Src: api.Src{Kind: api.SrcValue, Val: 1 + k}})
	}
	ops = append(append(ops, binds...), api.Op{Kind: api.OpMark})
	c.Blocks[0].Ops = ops
	for v := 0; objects > 0; v++ {
		c.Objects = append(c.Objects, api.Object{Var: v % 24, Ctx: v / 24, Words: min(objects, api.MaxLen)})
		objects -= api.MaxLen
	}
	return c
}

func TestLargestFrame(t *testing.T) {
	for _, c := range []struct{ spills, objects int }{{2509, 500}, {2497, 512}} {
		u := expectLimit(t, "slots", module(framed(t, c.spills, c.objects)), true, true)
		if s := u.Funcs[0].Steps; s[1].Offset != mostSlots {
			t.Errorf("the steps are %+v", s)
		}
		expectLimit(t, "slots of the second function", module(printing(t, 5), framed(t, c.spills, c.objects)), true, true)
		expectLimit(t, "one slot more", module(framed(t, c.spills+1, c.objects)), true, false)
		expectLimit(t, "one slot more in the second function", module(printing(t, 5), framed(t, c.spills+1, c.objects)), true, false)
		expectLimit(t, "one slot more in the first function", module(framed(t, c.spills+1, c.objects), printing(t, 5)), true, false)
	}
	expectLimit(t, "one slot more", module(framed(t, 2509, 501)), true, false)
}

// The largest modules are refused soon, whatever they have too much of.
func TestLargestModules(t *testing.T) {
	list := []api.Code{}
	for range api.MaxFuncs {
		list = append(list, passes.Roomy(passes.Largest(t)))
	}
	for f := range list {
		for b := range list[f].Blocks {
			if end := &list[f].Blocks[b].Term; end.Kind == api.TermCall {
				end.N = f
			}
		}
	}
	expectLimit(t, "the largest codes", module(list...), false, false)
	expectLimit(t, "the largest codes", module(list...), true, false)
}

// Where a value is moved to many parameters, every move begins another range of each piece that is bound to it.
func TestCrowdedRanges(t *testing.T) {
	c := binding(t, 5900, 5)
	c.Blocks = append(c.Blocks, api.Block{Params: 999, Term: api.Term{Kind: api.TermReturn, To: [2]api.Edge{{Block: -1}, {Block: -1}}}})
	c.Blocks[0].Term = api.Term{Kind: api.TermJump, To: [2]api.Edge{{Block: 1, Args: make([]int, 999)}, {Block: -1}}}
	expectLimit(t, "constants", module(c), true, true)
	for i := range c.Blocks[0].Ops {
		if s := &c.Blocks[0].Ops[i].Src; s.Kind == api.SrcConstant {
			s.Kind = api.SrcValue
		}
	}
	expectLimit(t, "values", module(c), true, false)
}
