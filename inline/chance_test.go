package inline

import (
	"math"
	"math/rand/v2"
	"slices"
	"testing"

	"debugger/api"
	"debugger/duplicate"
	"debugger/fold"
	"debugger/ir"
	"debugger/merge"
	"debugger/modules"
	"debugger/passes"
)

// callingModule returns a module by chance in which most calls are of leaves, with a position and bindings.
func callingModule(r *rand.Rand) (api.Source, api.Module) {
	for {
		s, m := modules.Module(r.IntN)
		leaves := []int{}
		for f, c := range m.Funcs {
			if leafLike(c) {
				leaves = append(leaves, f)
			}
		}
		if len(leaves) == 0 || len(leaves) == len(m.Funcs) && r.IntN(20) > 0 {
			continue
		}
		for f := range m.Funcs {
			for i := range m.Funcs[f].Blocks {
				b := &m.Funcs[f].Blocks[i]
				if b.Term.Kind == api.TermCall && r.IntN(8) > 0 {
					t := leaves[r.IntN(len(leaves))]
					callLeaf(r, b, len(m.Funcs[f].Contexts), t, m.Funcs[t].Params)
				}
			}
		}
		return s, m
	}
}

// callLeaf lets a block call a leaf, mostly with a position and some bindings.
func callLeaf(r *rand.Rand, b *api.Block, contexts, f, params int) {
	values := valuesOf(*b)
	b.Term.N, b.Term.Args = f, nil
	for range params {
		b.Term.Args = append(b.Term.Args, values[r.IntN(len(values))])
	}
	if r.IntN(10) == 0 {
		return
	}
	place := len(b.Ops) - r.IntN(min(len(b.Ops), 3)+1)
	list := []api.Op{}
	for range r.IntN(5) {
		src := api.Src{Kind: api.SrcValue, Val: values[r.IntN(len(values))], Add: r.IntN(3) - 1}
		list = append(list, api.Op{Kind: api.OpBind, Ctx: r.IntN(contexts), Var: r.IntN(4), Piece: r.IntN(2), Src: src})
	}
	list = append(list, api.Op{Kind: api.OpMark + r.IntN(2), N: r.IntN(10), Ctx: r.IntN(contexts)})
	b.Ops = slices.Insert(b.Ops, place, list...)
}

// valuesOf returns the values of a block.
func valuesOf(b api.Block) []int {
	list := []int{}
	for v := range b.Params {
		list = append(list, v)
	}
	for _, o := range b.Ops {
		if o.Kind <= api.OpLoad {
			list = append(list, o.Dst)
		}
	}
	return list
}

// tally counts what the modules have whose calls are replaced.
type tally struct {
	calls, replaced          int // calls, and those that are replaced
	handlers, thrown         int // replaced calls with a second edge, and without one of leaves that throw
	binds, nowhere, late     int // current bindings, those that lead nowhere as their value is not passed, and those to values that an edge passes
	objects, loops, repeated int // added objects, replaced calls of leaves with a block that jumps back, and functions with two or more of them
}

func (x *tally) count(m, got api.Module) {
	for f, c := range m.Funcs {
		before := x.replaced
		for i, b := range c.Blocks {
			if b.Term.Kind == api.TermCall {
				x.calls++
				x.countCall(m, c, b, got.Funcs[f].Blocks[i].Term.Kind == api.TermJump)
			}
		}
		if x.replaced > before+1 {
			x.repeated++
		}
	}
}

func (x *tally) countCall(m api.Module, c api.Code, b api.Block, replaced bool) {
	if !replaced {
		return
	}
	x.replaced++
	leaf := m.Funcs[b.Term.N]
	x.objects += len(leaf.Objects)
	if b.Term.To[1].Block >= 0 {
		x.handlers++
	}
	for i, other := range leaf.Blocks {
		if other.Term.Kind == api.TermThrow && b.Term.To[1].Block < 0 {
			x.thrown++
		}
		if to := other.Term.To[0].Block; to > 0 && to <= i {
			x.loops++
		}
	}
	place := lastPosition(b)
	bindings := latest(c, b, place)
	passed := handed(b, place, bindings)
	ahead := valuesOf(api.Block{Params: b.Params, Ops: b.Ops[:place]})
	for _, o := range bindings {
		x.binds++
		if o.Src.Kind == api.SrcValue && !slices.Contains(passed, o.Src.Val) {
			x.nowhere++
		} else if o.Src.Kind == api.SrcValue && !slices.Contains(ahead, o.Src.Val) {
			x.late++
		}
	}
}

func TestModulesByChance(t *testing.T) {
	r := rand.New(rand.NewPCG(11, 1))
	x := tally{}
	for range 3000 {
		_, m := callingModule(r)
		x.count(m, passes.AppliedModule(t, "P11.1 to P11.3", Inline, reckon, m))
	}
	t.Logf("%+v", x)
	if x.replaced < 3000 || x.replaced == x.calls || x.binds < 5000 || min(x.handlers, x.thrown, x.nowhere, x.late, x.objects, x.loops, x.repeated) < 200 {
		t.Errorf("what the modules have is %+v", x)
	}
}

// Modules that are close to the limits: some calls are replaced, and some are not, also behind one that is not.
func TestLargeModulesByChance(t *testing.T) {
	r := rand.New(rand.NewPCG(11, 2))
	x, later := tally{}, 0
	for range 1000 {
		_, m := callingModule(r)
		for leafLike(m.Funcs[0]) {
			_, m = callingModule(r)
		}
		limits := [4]int{0, 0, 3, 0}
		limits[r.IntN(4)] = math.MaxInt
		near := func(i, most, span int) int { return min(limits[i], most-r.IntN(span)) }
		m = stripped(m)
		repeat(r, m)
		m = fill(m, near(0, api.MaxBlocks, 12), near(1, api.MaxOps, 40), near(2, 16, 4), near(3, 64, 4))
		got := passes.AppliedModule(t, "P11.1 to P11.3", Inline, reckon, m)
		x.count(m, got)
		missed := false
		for i, b := range m.Funcs[0].Blocks {
			if b.Term.Kind == api.TermCall && leafLike(m.Funcs[b.Term.N]) && lastPosition(b) >= 0 {
				replaced := got.Funcs[0].Blocks[i].Term.Kind == api.TermJump
				if replaced && missed {
					later++
				}
				missed = missed || !replaced
			}
		}
	}
	t.Logf("%+v; %d calls are replaced behind one that is not", x, later)
	if x.replaced < 100 || x.calls-x.replaced < 100 || later < 20 {
		t.Errorf("%d of %d calls are replaced, %d behind one that is not", x.replaced, x.calls, later)
	}
}

// repeat adds blocks to the first function of a module that end with the same calls, or with calls of other leaves.
func repeat(r *rand.Rand, m api.Module) {
	c := &m.Funcs[0]
	for _, b := range c.Blocks {
		for range 3 {
			f := r.IntN(len(m.Funcs))
			other := duplicate.Block(b)
			if b.Term.Kind == api.TermCall && leafLike(m.Funcs[f]) {
				callLeaf(r, &other, len(c.Contexts), f, m.Funcs[f].Params)
				c.Blocks = append(c.Blocks, other)
			}
		}
	}
}

// stripped returns a module without objects in its first function.
func stripped(m api.Module) api.Module {
	c := &m.Funcs[0]
	c.Objects = nil
	for i := range c.Blocks {
		b := &c.Blocks[i]
		for j, o := range b.Ops {
			switch o.Kind {
			case api.OpLoad:
				b.Ops[j] = api.Op{Kind: api.OpConst, Dst: o.Dst}
			case api.OpStore, api.OpZero:
				b.Ops[j] = api.Op{Kind: api.OpMark}
			}
		}
	}
	return m
}

// Modules in which anything is changed come back as they are, or with calls replaced if they are sound still.
func TestChangedModules(t *testing.T) {
	r := rand.New(rand.NewPCG(11, 3))
	sound, replaced := 0, 0
	for range 4000 {
		_, m := callingModule(r)
		f := r.IntN(len(m.Funcs))
		m.Funcs[f] = passes.Changed(r.IntN, m.Funcs[f])
		want := m
		if ir.Check(m) == api.OK {
			sound++
			want = reckon(m)
		}
		got := Inline(m)
		if !passes.EqualModules(got, want) {
			t.Fatalf("P11.1:\n%s\nbecomes\n%s", passes.PrintModule(m), passes.PrintModule(got))
		}
		if ir.Check(m) == api.OK && !passes.EqualModules(got, m) {
			replaced++
		}
	}
	t.Logf("%d modules are sound, of %d calls are replaced", sound, replaced)
	if sound < 500 || sound > 3500 || replaced < 300 {
		t.Errorf("%d of 4000 modules are sound, of %d calls are replaced", sound, replaced)
	}
}

// zeroed returns a module in which each function makes its objects 0 at first, as they are in a new activation.
func zeroed(m api.Module) api.Module {
	m = duplicate.Module(m)
	for _, c := range m.Funcs {
		for o := range c.Objects {
			c.Blocks[0].Ops = slices.Insert(c.Blocks[0].Ops, 0, api.Op{Kind: api.OpZero, N: o})
		}
	}
	return m
}

// settled returns a module in which no Bind is to a value that is defined behind it, as such a value may not be passed.
func settled(m api.Module) api.Module {
	m = duplicate.Module(m)
	for _, c := range m.Funcs {
		for _, b := range c.Blocks {
			for j, o := range b.Ops {
				if o.Src.Kind == api.SrcValue && !slices.Contains(valuesOf(api.Block{Params: b.Params, Ops: b.Ops[:j]}), o.Src.Val) {
					b.Ops[j].Src = api.Src{}
				}
			}
		}
	}
	return m
}

func TestRunsByChance(t *testing.T) {
	r := rand.New(rand.NewPCG(11, 4))
	x, ended, thrown, fuel, deep := tally{}, 0, 0, 0, 0
	for range 1500 {
		s, m := callingModule(r)
		m = zeroed(m)
		calm := settled(m)
		other, still := Inline(m), Inline(calm)
		x.count(calm, still)
		for f := range m.Funcs {
			args, steps := passes.Arguments(r.IntN, m.Funcs[f].Params), r.IntN(60)
			passes.ExpectFewer(t, s, m, other, f, args, steps, passes.Within)
			o := passes.ExpectFewer(t, s, calm, still, f, args, steps, passes.EqualEvents)
			switch {
			case o.Err == api.ErrLimit:
				deep++
			case o.Err == api.ErrFuel:
				fuel++
			case o.Thrown:
				thrown++
			default:
				ended++
			}
		}
	}
	t.Logf("%d runs returned, %d threw, %d had too few steps, %d too many activations; %+v", ended, thrown, fuel, deep, x)
	if min(ended, thrown, fuel) < 200 || deep < 20 || x.replaced < 1500 {
		t.Errorf("%d runs returned, %d threw, %d had too few steps, %d too many activations; %+v", ended, thrown, fuel, deep, x)
	}
}

// A program with calls replaced has all events of its module, with all words, and those of the interpreter, also if it is folded and merged ahead of that, or behind it.
func TestProgramsByChance(t *testing.T) {
	r := rand.New(rand.NewPCG(11, 6))
	x, words := tally{}, 0
	joined := passes.Each(func(c api.Code) api.Code { return merge.Merge(fold.Fold(c)) })
	for range 400 {
		s, m := passes.Program(t, r.IntN)
		short := joined(m)
		other, both := passes.AppliedModule(t, "P11.1", Inline, reckon, m), passes.AppliedModule(t, "P11.1", Inline, reckon, short)
		x.count(m, other)
		for f, c := range m.Funcs {
			args := passes.Arguments(r.IntN, c.Params)
			if o := passes.ExpectFewer(t, s, m, other, f, args, 300, passes.EqualEvents); o.Err != api.ErrLimit {
				passes.ExpectInterpreted(t, s, other, f, args, 300)
				passes.ExpectTrue(t, s, joined(other), f, args, 300)
			}
			passes.ExpectFewer(t, s, short, both, f, args, 300, passes.EqualEvents)
			events, _ := passes.Whole(s, other, f, args, 300)
			words += passes.Words(events)
		}
	}
	t.Logf("%+v; %d words", x, words)
	if x.replaced < 500 || words < 100000 || min(x.handlers, x.repeated) < 100 {
		t.Errorf("what the programs have is %+v, and %d words", x, words)
	}
}
