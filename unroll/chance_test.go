package unroll

import (
	"math/rand/v2"
	"testing"

	"debugger/api"
	"debugger/dead"
	"debugger/fold"
	"debugger/inline"
	"debugger/merge"
	"debugger/modules"
	"debugger/operation"
	"debugger/passes"
)

// unrolledModule returns a module of unrolled functions, each of which is checked against the second implementation.
func unrolledModule(t *testing.T, m api.Module) api.Module {
	t.Helper()
	return passes.Applied(t, "P12.1 to P12.3", Unroll, reckon, m)
}

// loopingModule returns a module by chance with many jumps to heads of loops and many branches of blocks to themselves; some blocks have values with great numbers, or about as many operations as a head may have.
func loopingModule(r *rand.Rand) (api.Source, api.Module) {
	s, m := modules.Module(r.IntN)
	for f := range m.Funcs {
		c := &m.Funcs[f]
		for b := 1; b < len(c.Blocks); b++ {
			lead(r, c, b)
			switch r.IntN(12) {
			case 0:
				raise(&c.Blocks[b], 9999-r.IntN(8))
			case 1:
				fill(&c.Blocks[b], 22+r.IntN(6))
			}
		}
	}
	return s, m
}

// crowded adds operations to some functions of a module, so that only few more have room.
func crowded(r *rand.Rand, m api.Module) {
	for f := range m.Funcs {
		c := &m.Funcs[f]
		if r.IntN(12) == 0 {
			b := &c.Blocks[r.IntN(len(c.Blocks))]
			fill(b, len(b.Ops)+api.MaxOps-operation.Count(*c)-r.IntN(60))
		}
	}
}

// lead lets a block mostly end with a jump or a branch, many of these to a block ahead of it or to itself.
func lead(r *rand.Rand, c *api.Code, block int) {
	b := &c.Blocks[block]
	list := values(*b)
	edge := func() api.Edge {
		to := 1 + r.IntN(len(c.Blocks)-1)
		if r.IntN(2) > 0 {
			to = 1 + r.IntN(block)
		}
		e := api.Edge{Block: to}
		for range c.Blocks[to].Params {
			e.Args = append(e.Args, list[r.IntN(len(list))])
		}
		return e
	}
	switch r.IntN(4) {
	case 0:
		b.Term = api.Term{Kind: api.TermJump, To: [2]api.Edge{edge(), {Block: -1}}}
	case 1, 2:
		b.Term = api.Term{Kind: api.TermBranch, A: list[r.IntN(len(list))], To: [2]api.Edge{edge(), edge()}}
	}
}

// values returns the values of a block.
func values(b api.Block) []int {
	list := []int{}
	for v := range b.Params {
		list = append(list, v)
	}
	for _, o := range b.Ops {
		if o.Kind <= api.OpLoad {
			list = append(list, o.Dst)
		}
	}
	return list
}

// raise makes the values that the operations of a block define greater, up to a number.
func raise(b *api.Block, greatest int) {
	list, last := values(*b), b.Params
	if len(list) == b.Params {
		return
	}
	for _, v := range list {
		last = max(last, v)
	}
	number := func(v int) int {
		if v >= b.Params {
			return v + greatest - last
		}
		return v
	}
	for i, o := range b.Ops {
		b.Ops[i] = passes.Renamed(o, number)
	}
	b.Term = passes.Ended(b.Term, number, func(block int) int { return block })
}

// fill adds operations to a block until it has so many.
func fill(b *api.Block, count int) {
	for len(b.Ops) < count {
		b.Ops = append(b.Ops, api.Op{Kind: api.OpBind})
	}
}

// tally counts what becomes of codes: blocks that are turned and unrolled, and those that would be if there were more room or numbers.
type tally struct{ turned, unrolled, jumps, branches int }

func (x *tally) count(c, got api.Code) {
	for i, b := range c.Blocks {
		end := got.Blocks[i].Term
		if b.Term.Kind == api.TermJump && end.Kind == api.TermBranch {
			x.turned++
		} else if h := b.Term.To[0].Block; i > 0 && b.Term.Kind == api.TermJump && c.Blocks[h].Term.Kind == api.TermBranch {
			x.jumps++
		}
		if end.Kind == api.TermBranch && (end.To[0].Block == i || end.To[1].Block == i) {
			x.branches++
		}
	}
	x.unrolled += len(got.Blocks) - len(c.Blocks)
}

func TestModulesByChance(t *testing.T) {
	r := rand.New(rand.NewPCG(12, 1))
	x := tally{}
	for range 2500 {
		_, m := loopingModule(r)
		crowded(r, m)
		other := unrolledModule(t, m)
		for f, c := range m.Funcs {
			x.count(c, other.Funcs[f])
		}
	}
	t.Logf("%+v", x)
	if x.turned < 1000 || x.unrolled < 1000 || x.jumps < 300 || x.branches < 100 {
		t.Errorf("only %+v", x)
	}
}

// Codes in which anything is changed come back as they are, or are unrolled if they are sound still.
func TestChangedCodes(t *testing.T) {
	r := rand.New(rand.NewPCG(12, 2))
	if sound := passes.ExpectChanged(t, "P12.1", Unroll, reckon, r.IntN, 4000); sound < 500 || sound > 3000 {
		t.Errorf("%d of 4000 codes are sound", sound)
	}
}

// A turned loop enters less blocks.
func TestRunsByChance(t *testing.T) {
	r := rand.New(rand.NewPCG(12, 3))
	ended, fuel, further := 0, 0, 0
	for range 1200 {
		s, m := loopingModule(r)
		for f, c := range m.Funcs {
			m.Funcs[f] = passes.Blank(r.IntN, c)
		}
		other := unrolledModule(t, m)
		for f := range m.Funcs {
			if passes.Equal(m.Funcs[f], other.Funcs[f]) {
				continue
			}
			args, steps := passes.Arguments(r.IntN, m.Funcs[f].Params), r.IntN(40)
			if passes.Starved(s, m, f, args, steps) {
				further++
			}
			switch passes.ExpectFurther(t, s, m, other, f, args, steps, passes.EqualEvents).Err {
			case api.OK:
				ended++
			case api.ErrFuel:
				fuel++
			}
		}
	}
	t.Logf("%d runs ended, %d had too few steps or entered too many blocks, %d of these too many blocks", ended, fuel, further)
	if ended < 500 || fuel < 200 {
		t.Errorf("only %d runs ended, and %d had too few steps", ended, fuel)
	}
}

// What was known stays known; more may be, behind a jump ahead of a new position or binding.
func TestKnownWords(t *testing.T) {
	r := rand.New(rand.NewPCG(12, 4))
	words := 0
	for range 1500 {
		s, m := loopingModule(r)
		other := unrolledModule(t, m)
		args := passes.Arguments(r.IntN, m.Funcs[0].Params)
		events, _ := passes.Whole(s, m, 0, args, 40)
		got, _ := passes.Whole(s, other, 0, args, 40)
		if len(got) < len(events) {
			t.Fatalf("S2: %d events, not %d", len(got), len(events))
		}
		for i, e := range events {
			words += passes.ExpectKnown(t, e, got[i])
		}
	}
	if words < 2000 {
		t.Errorf("only %d words are known", words)
	}
}

// The events of an unrolled program are those of the interpreter, with all words, also if all earlier passes have gone through it; what these leave known stays known.
func TestProgramsByChance(t *testing.T) {
	r := rand.New(rand.NewPCG(12, 6))
	x, y, words := tally{}, tally{}, 0
	for range 400 {
		s, m := passes.Program(t, r.IntN)
		other := unrolledModule(t, m)
		earlier := api.Module{}
		for _, c := range inline.Inline(m).Funcs {
			earlier.Funcs = append(earlier.Funcs, dead.Dead(fold.Fold(merge.Merge(fold.Fold(c)))))
		}
		both := unrolledModule(t, earlier)
		for f, c := range m.Funcs {
			x.count(c, other.Funcs[f])
			y.count(earlier.Funcs[f], both.Funcs[f])
			args := passes.Arguments(r.IntN, c.Params)
			passes.ExpectSame(t, s, m, other, f, args, 300)
			passes.ExpectInterpreted(t, s, other, f, args, 300)
			passes.ExpectSame(t, s, earlier, both, f, args, 300)
			events, _ := passes.Whole(s, both, f, args, 300)
			words += passes.Words(events)
		}
	}
	t.Logf("%+v, and behind the earlier passes %+v; %d words are known", x, y, words)
	if min(x.turned, y.turned) < 100 || min(x.unrolled, y.unrolled) < 20 || words < 10000 {
		t.Errorf("only %+v, and behind the earlier passes %+v; %d words are known", x, y, words)
	}
}
