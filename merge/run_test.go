package merge

import (
	"math/rand/v2"
	"testing"

	"debugger/api"
	"debugger/fold"
	"debugger/passes"
)

// blank returns a code whose blocks begin with a position of their own and without bindings, so that what a block shows does not depend on what is ahead of it.
func blank(r *rand.Rand, c api.Code) api.Code {
	c = passes.Roomy(c)
	for i := range c.Blocks {
		b, ops := &c.Blocks[i], []api.Op{}
		for x := range c.Contexts {
			for v := range 5 {
				for piece := range 3 {
					ops = append(ops, api.Op{Kind: api.OpBind, Ctx: x, Var: v, Piece: piece})
				}
			}
		}
		ops = append(ops, api.Op{Kind: api.OpAt, N: r.IntN(10), Ctx: r.IntN(len(c.Contexts))})
		b.Ops = append(ops, b.Ops...)
	}
	return c
}

// starved tells whether a run ended because it entered too many blocks: another step would not have helped.
func starved(s api.Source, m api.Module, f int, args []int, steps int) bool {
	events, o := passes.Whole(s, m, f, args, steps)
	more, _ := passes.Whole(s, m, f, args, steps+1)
	return o.Err == api.ErrFuel && len(events) == len(more)
}

// expectFurther checks a run of a module that entered too many blocks: that of the merged module enters less, and may get further.
func expectFurther(t *testing.T, s api.Source, m, other api.Module, f int, args []int, steps int) {
	t.Helper()
	events, o := passes.Whole(s, m, f, args, steps)
	got, end := passes.Whole(s, other, f, args, steps)
	if len(got) < len(events) || len(end.Output) < len(o.Output) {
		t.Fatalf("S1, S2: function %d with %v: %d events and %d numbers, not %d and %d", f, args, len(got), len(end.Output), len(events), len(o.Output))
	}
	end.Output = end.Output[:len(o.Output)]
	if !passes.EqualEvents(got[:len(events)], events) || !passes.EqualOutcomes(api.Outcome{Output: end.Output}, api.Outcome{Output: o.Output}) {
		t.Fatalf("S1 to S3: function %d with %v: other events, or other numbers", f, args)
	}
}

func TestRunsByChance(t *testing.T) {
	r := rand.New(rand.NewPCG(9, 3))
	ended, fuel, further := 0, 0, 0
	for range 1000 {
		s, m := jumpingModule(r)
		for f, c := range m.Funcs {
			m.Funcs[f] = blank(r, c)
		}
		other := mergedModule(t, m)
		if passes.EqualModules(m, other) {
			continue
		}
		for f := range m.Funcs {
			args, steps := passes.Arguments(r.IntN, m.Funcs[f].Params), r.IntN(40)
			if starved(s, m, f, args, steps) {
				expectFurther(t, s, m, other, f, args, steps)
				further++
				continue
			}
			switch passes.ExpectSame(t, s, m, other, f, args, steps).Err {
			case api.OK:
				ended++
			case api.ErrFuel:
				fuel++
			}
		}
	}
	t.Logf("%d runs ended, %d had too few steps, %d entered too many blocks", ended, fuel, further)
	if ended < 500 || fuel < 200 {
		t.Errorf("only %d runs ended, and %d had too few steps", ended, fuel)
	}
}

// What was known stays known; more may be, behind a jump ahead of a new position or binding.
func TestKnownWords(t *testing.T) {
	r := rand.New(rand.NewPCG(9, 5))
	words := 0
	for range 1500 {
		s, m := jumpingModule(r)
		other := mergedModule(t, m)
		args := passes.Arguments(r.IntN, m.Funcs[0].Params)
		events, _ := passes.Whole(s, m, 0, args, 40)
		got, _ := passes.Whole(s, other, 0, args, 40)
		if len(got) < len(events) {
			t.Fatalf("S2: %d events, not %d", len(got), len(events))
		}
		for i, e := range events {
			words += expectKnown(t, e, got[i])
		}
	}
	if words < 2000 {
		t.Errorf("only %d words are known", words)
	}
}

// expectKnown checks that what is known in an event is known in another one, and returns how many words are. It ends with the first frame whose position is not known, because there may be several instead.
func expectKnown(t *testing.T, e, got api.Event) int {
	t.Helper()
	words := 0
	for i, f := range e.Frames {
		if f.Stmt < 0 {
			break
		}
		other := got.Frames[i]
		if other.Func != f.Func || other.Stmt != f.Stmt || len(other.Vars) != len(f.Vars) {
			t.Fatalf("S2: the frame %+v becomes %+v", f, other)
		}
		for j, v := range f.Vars {
			for w, known := range v.Known {
				if known && (!other.Vars[j].Known[w] || other.Vars[j].Words[w] != v.Words[w]) {
					t.Fatalf("S3: the variable %+v becomes %+v", v, other.Vars[j])
				}
				if known {
					words++
				}
			}
		}
	}
	return words
}

// The events of a merged program are those of the interpreter, with all words, also if it was folded.
func TestProgramsByChance(t *testing.T) {
	r := rand.New(rand.NewPCG(9, 6))
	merged, more := 0, 0
	for range 400 {
		s, m := passes.Program(t, r.IntN)
		other := mergedModule(t, m)
		if !passes.EqualModules(m, other) {
			merged++
		}
		folded := api.Module{}
		for _, c := range m.Funcs {
			folded.Funcs = append(folded.Funcs, fold.Fold(c))
		}
		both := mergedModule(t, folded)
		if len(both.Funcs[0].Blocks) < len(other.Funcs[0].Blocks) {
			more++
		}
		for f, c := range m.Funcs {
			args := passes.Arguments(r.IntN, c.Params)
			passes.ExpectSame(t, s, m, other, f, args, 300)
			passes.ExpectSame(t, s, m, both, f, args, 300)
			passes.ExpectInterpreted(t, s, other, f, args, 300)
			passes.ExpectInterpreted(t, s, both, f, args, 300)
		}
	}
	t.Logf("%d of 400 programs are merged, %d further if they are folded", merged, more)
	if merged < 200 || more < 20 {
		t.Errorf("only %d programs are merged, and %d further if they are folded", merged, more)
	}
}
