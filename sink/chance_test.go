package sink

import (
	"math/rand/v2"
	"testing"

	"debugger/api"
	"debugger/dead"
	"debugger/fold"
	"debugger/inline"
	"debugger/merge"
	"debugger/modules"
	"debugger/passes"
	"debugger/unroll"
)

// sunkModule returns a module of the functions with operations moved down, each of which is checked against the second implementation.
func sunkModule(t *testing.T, m api.Module) api.Module {
	t.Helper()
	return passes.Applied(t, "P13.1", Sink, reckon, m)
}

// busyModule returns a module by chance with operations among the others of many blocks that use each other.
func busyModule(r *rand.Rand) (api.Source, api.Module) {
	s, m := modules.Module(r.IntN)
	for f := range m.Funcs {
		for i := range m.Funcs[f].Blocks {
			if r.IntN(3) > 0 {
				addMoved(r, &m.Funcs[f].Blocks[i])
			}
		}
	}
	return s, m
}

// addMoved puts operations that are moved between those of a block, with Prints and Binds of their values.
func addMoved(r *rand.Rand, b *api.Block) {
	list, next := []int{}, b.Params
	for v := range b.Params {
		list = append(list, v)
	}
	for _, o := range b.Ops {
		if o.Kind <= api.OpLoad {
			next = max(next, o.Dst+1)
		}
	}
	ops := []api.Op{}
	for _, o := range b.Ops {
		for range r.IntN(3) {
			extra := added(r, list, next)
			if extra.Kind <= api.OpLoad {
				list, next = append(list, next), next+1
			}
			ops = append(ops, extra)
		}
		if o.Kind <= api.OpLoad {
			list = append(list, o.Dst)
		}
		ops = append(ops, o)
	}
	b.Ops = ops
}

// added returns an operation that uses some values of a list, or defines the value next.
func added(r *rand.Rand, list []int, next int) api.Op {
	if len(list) == 0 || r.IntN(4) == 0 {
		return api.Op{Kind: api.OpConst, Dst: next, N: r.IntN(9) - 2}
	}
	a, b := list[r.IntN(len(list))], list[r.IntN(len(list))]
	switch r.IntN(6) {
	case 0:
		return api.Op{Kind: api.OpCopy, Dst: next, A: a}
	case 1:
		return api.Op{Kind: api.OpPrint, A: a}
	case 2:
		return api.Op{Kind: api.OpBind, Var: r.IntN(5), Src: api.Src{Kind: api.SrcValue, Val: a, Add: r.IntN(2)}}
	case 3:
		return api.Op{Kind: api.OpMark, N: r.IntN(10)}
	}
	return api.Op{Kind: api.OpAdd + r.IntN(12), Dst: next, A: a, B: b}
}

// tally counts what becomes of the operations that are moved: whether a use is directly behind them, or they stand at the end.
type tally struct{ changed, ahead, behind int }

func (x *tally) count(c, got api.Code) {
	for i, b := range c.Blocks {
		ops := got.Blocks[i].Ops
		for j, o := range b.Ops {
			if o != ops[j] {
				x.changed++
			}
			if moves(ops[j].Kind) && j+1 < len(ops) && uses(&ops[j+1], ops[j].Dst) {
				x.ahead++
			} else if moves(ops[j].Kind) {
				x.behind++
			}
		}
	}
}

func TestModulesByChance(t *testing.T) {
	r := rand.New(rand.NewPCG(13, 1))
	x := tally{}
	for range 3000 {
		_, m := busyModule(r)
		other := sunkModule(t, m)
		for f, c := range m.Funcs {
			x.count(c, other.Funcs[f])
		}
	}
	t.Logf("%+v", x)
	if x.changed < 50000 || x.ahead < 20000 || x.behind < 20000 {
		t.Errorf("only %+v", x)
	}
}

// Codes in which anything is changed come back as they are, or with operations moved down if they are sound still.
func TestChangedCodes(t *testing.T) {
	r := rand.New(rand.NewPCG(13, 2))
	if sound := passes.ExpectChanged(t, "P13.1", Sink, reckon, r.IntN, 4000); sound < 500 || sound > 3000 {
		t.Errorf("%d of 4000 codes are sound", sound)
	}
}

// The outcome and the positions of the events stay; of what is known, all that is still known has the same words.
func TestRunsByChance(t *testing.T) {
	r := rand.New(rand.NewPCG(13, 3))
	ended, fuel, words, kept := 0, 0, 0, 0
	for range 1500 {
		s, m := busyModule(r)
		other := sunkModule(t, m)
		for f := range m.Funcs {
			args, steps := passes.Arguments(r.IntN, m.Funcs[f].Params), r.IntN(60)
			switch passes.ExpectLike(t, s, m, other, f, args, steps, passes.Within).Err {
			case api.OK:
				ended++
			case api.ErrFuel:
				fuel++
			}
			events, _ := passes.Whole(s, m, f, args, steps)
			got, _ := passes.Whole(s, other, f, args, steps)
			words, kept = words+passes.Words(events), kept+passes.Words(got)
		}
	}
	t.Logf("%d runs ended, %d had too few steps; %d of %d words stay known", ended, fuel, kept, words)
	if ended < 500 || fuel < 200 || kept < 5000 || kept == words {
		t.Errorf("only %d runs ended, %d had too few steps; %d of %d words stay known", ended, fuel, kept, words)
	}
}

// The events of a program with operations moved down are those of the interpreter; what is known is right, also if all earlier passes have gone through it.
func TestProgramsByChance(t *testing.T) {
	r := rand.New(rand.NewPCG(13, 4))
	x, y, words, kept := tally{}, tally{}, 0, 0
	for range 400 {
		s, m := passes.Program(t, r.IntN)
		earlier := api.Module{}
		for _, c := range inline.Inline(m).Funcs {
			c = dead.Dead(fold.Fold(merge.Merge(fold.Fold(c))))
			earlier.Funcs = append(earlier.Funcs, dead.Dead(unroll.Unroll(c)))
		}
		other, both := sunkModule(t, m), sunkModule(t, earlier)
		for f, c := range m.Funcs {
			x.count(c, other.Funcs[f])
			y.count(earlier.Funcs[f], both.Funcs[f])
			args := passes.Arguments(r.IntN, c.Params)
			passes.ExpectTrue(t, s, other, f, args, 300)
			passes.ExpectLike(t, s, m, other, f, args, 300, passes.Within)
			passes.ExpectLike(t, s, earlier, both, f, args, 300, passes.Within)
			events, _ := passes.Whole(s, m, f, args, 300)
			got, _ := passes.Whole(s, other, f, args, 300)
			words, kept = words+passes.Words(events), kept+passes.Words(got)
		}
	}
	t.Logf("%+v, and behind the earlier passes %+v; %d of %d words stay known", x, y, kept, words)
	if min(x.changed, y.changed) < 1000 || min(x.ahead, y.ahead, y.behind) < 500 || kept < words/3 || kept == words {
		t.Errorf("only %+v, and behind the earlier passes %+v; %d of %d words stay known", x, y, kept, words)
	}
}
