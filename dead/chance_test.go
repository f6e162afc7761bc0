package dead

import (
	"math/rand/v2"
	"testing"

	"debugger/api"
	"debugger/fold"
	"debugger/merge"
	"debugger/modules"
	"debugger/notation"
	"debugger/passes"
)

// deadModule returns a module of the functions without what is not needed, each of which is checked against the second implementation.
func deadModule(t *testing.T, m api.Module) api.Module {
	t.Helper()
	result := passes.Applied(t, "P10.1 to P10.6", Dead, reckon, m)
	for _, c := range result.Funcs {
		if again := Dead(c); !passes.Equal(again, c) {
			t.Fatalf("P10.1:\n%s\nis changed again, to\n%s", notation.Print(c), notation.Print(again))
		}
	}
	return result
}

// looseModule returns a module by chance with rows of values that mostly nothing needs, with Binds to them, and with edges that hand parameters on.
func looseModule(r *rand.Rand) (api.Source, api.Module) {
	s, m := modules.Module(r.IntN)
	for f := range m.Funcs {
		c := &m.Funcs[f]
		for i := range c.Blocks {
			b := &c.Blocks[i]
			if r.IntN(2) > 0 {
				hand(r, b)
			}
			if r.IntN(2) > 0 {
				addRow(r, b, len(c.Contexts))
			}
		}
	}
	return s, m
}

// hand lets the edges of a block hand its parameters on, mostly each to the same one.
func hand(r *rand.Rand, b *api.Block) {
	for j := range b.Term.To {
		args := b.Term.To[j].Args
		for i := range args {
			if i < b.Params && r.IntN(5) > 0 {
				args[i] = i
			} else if b.Params > 0 && r.IntN(5) > 0 {
				args[i] = r.IntN(b.Params)
			}
		}
	}
}

// addRow puts a row of values behind the operations of a block, each of which has to do with the one ahead of it and a constant, and Binds to them among its operations.
func addRow(r *rand.Rand, b *api.Block, contexts int) {
	list, next := []int{}, b.Params
	for v := range b.Params {
		list = append(list, v)
	}
	for _, o := range b.Ops {
		if o.Kind <= api.OpLoad {
			list, next = append(list, o.Dst), max(next, o.Dst+1)
		}
	}
	constants := []int{3, 1 << 62, -7, greatest}
	b.Ops = append(b.Ops, api.Op{Kind: api.OpConst, Dst: next, N: constants[r.IntN(4)]})
	constant, latest := next, list[r.IntN(len(list))]
	for range r.IntN(6) {
		next++
		o := api.Op{Dst: next, A: latest, B: constant, Kind: api.OpAdd + r.IntN(2)}
		switch r.IntN(6) {
		case 0:
			o = api.Op{Kind: api.OpCopy, Dst: next, A: latest}
		case 1, 2:
			o.A, o.B = o.B, o.A
		}
		b.Ops = append(b.Ops, o)
		latest = next
	}
	for range 1 + r.IntN(3) {
		bind := api.Op{Kind: api.OpBind, Ctx: r.IntN(contexts), Var: r.IntN(5), Src: api.Src{Kind: api.SrcValue, Val: latest, Add: r.IntN(3) - 1}}
		if b.Params > 0 && r.IntN(3) == 0 {
			bind.Src.Val = r.IntN(b.Params)
		}
		mark := api.Op{Kind: api.OpMark, N: r.IntN(10), Ctx: bind.Ctx}
		place := len(b.Ops)
		if r.IntN(4) == 0 {
			place = r.IntN(place)
		}
		b.Ops = append(b.Ops[:place:place], append([]api.Op{bind, mark}, b.Ops[place:]...)...)
	}
}

// tally counts what becomes of the Binds to values.
type tally struct{ stay, move, constant, entry, nowhere int }

func (x *tally) count(c, got api.Code) {
	for i, b := range connected(c).Blocks {
		binds := bindings(got.Blocks[i])
		for j, before := range bindings(b) {
			after := binds[j].Src
			switch {
			case before.Src.Kind != api.SrcValue:
			case after.Kind == api.SrcConstant:
				x.constant++
			case after.Kind == api.SrcEntry:
				x.entry++
			case after.Kind == api.SrcNowhere:
				x.nowhere++
			case after.Add != before.Src.Add:
				x.move++
			default:
				x.stay++
			}
		}
	}
}

func bindings(b api.Block) []api.Op {
	list := []api.Op{}
	for _, o := range b.Ops {
		if o.Kind == api.OpBind {
			list = append(list, o)
		}
	}
	return list
}

// removed counts the blocks, parameters and operations that a code has no more.
func removed(c, got api.Code) (blocks, params, ops int) {
	blocks = len(c.Blocks) - len(got.Blocks)
	for i, b := range connected(c).Blocks {
		params += b.Params - got.Blocks[i].Params
		ops += len(b.Ops) - len(got.Blocks[i].Ops)
	}
	return blocks, params, ops
}

func TestModulesByChance(t *testing.T) {
	r := rand.New(rand.NewPCG(10, 1))
	x, blocks, params, ops := tally{}, 0, 0, 0
	for range 3000 {
		_, m := looseModule(r)
		other := deadModule(t, m)
		for f, c := range m.Funcs {
			x.count(c, other.Funcs[f])
			b, p, o := removed(c, other.Funcs[f])
			blocks, params, ops = blocks+b, params+p, ops+o
		}
	}
	t.Logf("%d blocks, %d parameters and %d operations are removed; the Binds become %+v", blocks, params, ops, x)
	if blocks < 5000 || params < 3000 || ops < 10000 {
		t.Errorf("only %d blocks, %d parameters and %d operations are removed", blocks, params, ops)
	}
	if min(x.stay, x.move, x.constant, x.entry, x.nowhere) < 500 {
		t.Errorf("the Binds become %+v", x)
	}
}

// Codes in which anything is changed come back as they are, or without what is not needed if they are sound still.
func TestChangedCodes(t *testing.T) {
	r := rand.New(rand.NewPCG(10, 2))
	if sound := passes.ExpectChanged(t, "P10.1", Dead, reckon, r.IntN, 4000); sound < 500 || sound > 3000 {
		t.Errorf("%d of 4000 codes are sound", sound)
	}
}

// settled returns a module in which no Bind is to a value that is defined behind it: such a value may become known earlier than it was.
func settled(m api.Module) api.Module {
	result := api.Module{}
	for _, c := range m.Funcs {
		c = passes.Roomy(c)
		for i, b := range c.Blocks {
			defined := map[int]bool{}
			for j, o := range b.Ops {
				if o.Kind <= api.OpLoad {
					defined[o.Dst] = true
				}
				if s := o.Src; s.Kind == api.SrcValue && s.Val >= b.Params && !defined[s.Val] {
					c.Blocks[i].Ops[j].Src = api.Src{}
				}
			}
		}
		result.Funcs = append(result.Funcs, c)
	}
	return result
}

func TestRunsByChance(t *testing.T) {
	r := rand.New(rand.NewPCG(10, 3))
	ended, fuel, words, kept := 0, 0, 0, 0
	for range 1500 {
		s, m := looseModule(r)
		calm := settled(m)
		other, still := deadModule(t, m), deadModule(t, calm)
		for f := range m.Funcs {
			args, steps := passes.Arguments(r.IntN, m.Funcs[f].Params), r.IntN(60)
			passes.ExpectLike(t, s, m, other, f, args, steps, passes.Agree)
			switch passes.ExpectLike(t, s, calm, still, f, args, steps, passes.Within).Err {
			case api.OK:
				ended++
			case api.ErrFuel:
				fuel++
			}
			events, _ := passes.Whole(s, calm, f, args, steps)
			got, _ := passes.Whole(s, still, f, args, steps)
			words, kept = words+passes.Words(events), kept+passes.Words(got)
		}
	}
	t.Logf("%d runs ended, %d had too few steps; %d of %d words stay known", ended, fuel, kept, words)
	if ended < 500 || fuel < 200 || kept < 5000 || kept == words {
		t.Errorf("only %d runs ended, %d had too few steps; %d of %d words stay known", ended, fuel, kept, words)
	}
}

// The events of a program without what is not needed are those of the interpreter; what is known is right, also if the program was folded and merged.
func TestProgramsByChance(t *testing.T) {
	r := rand.New(rand.NewPCG(10, 4))
	x, words, kept := tally{}, 0, 0
	for range 400 {
		s, m := passes.Program(t, r.IntN)
		joined := api.Module{}
		for _, c := range m.Funcs {
			joined.Funcs = append(joined.Funcs, merge.Merge(fold.Fold(c)))
		}
		other, both := deadModule(t, m), deadModule(t, joined)
		for f, c := range m.Funcs {
			x.count(joined.Funcs[f], both.Funcs[f])
			args := passes.Arguments(r.IntN, c.Params)
			passes.ExpectTrue(t, s, other, f, args, 300)
			passes.ExpectTrue(t, s, both, f, args, 300)
			passes.ExpectLike(t, s, m, other, f, args, 300, passes.Within)
			passes.ExpectLike(t, s, joined, both, f, args, 300, passes.Within)
			events, _ := passes.Whole(s, m, f, args, 300)
			got, _ := passes.Whole(s, both, f, args, 300)
			words, kept = words+passes.Words(events), kept+passes.Words(got)
		}
	}
	t.Logf("%d of %d words stay known; the Binds become %+v", kept, words, x)
	if kept < words/2 || min(x.stay, x.entry, x.nowhere) < 100 {
		t.Errorf("%d of %d words stay known; the Binds become %+v", kept, words, x)
	}
}
