package merge

import (
	"math/rand/v2"
	"testing"

	"debugger/api"
	"debugger/fold"
	"debugger/passes"
)

func TestRunsByChance(t *testing.T) {
	r := rand.New(rand.NewPCG(9, 3))
	ended, fuel, further := 0, 0, 0
	for range 1000 {
		s, m := jumpingModule(r)
		for f, c := range m.Funcs {
			m.Funcs[f] = passes.Blank(r.IntN, c)
		}
		other := mergedModule(t, m)
		if passes.EqualModules(m, other) {
			continue
		}
		for f := range m.Funcs {
			args, steps := passes.Arguments(r.IntN, m.Funcs[f].Params), r.IntN(40)
			if passes.Starved(s, m, f, args, steps) {
				further++
			}
			switch passes.ExpectFurther(t, s, m, other, f, args, steps, passes.EqualEvents).Err {
			case api.OK:
				ended++
			case api.ErrFuel:
				fuel++
			}
		}
	}
	t.Logf("%d runs ended, %d had too few steps, %d entered too many blocks", ended, fuel, further)
	if ended < 500 || fuel < 200 {
		t.Errorf("only %d runs ended, and %d had too few steps", ended, fuel)
	}
}

// What was known stays known; more may be, behind a jump ahead of a new position or binding.
func TestKnownWords(t *testing.T) {
	r := rand.New(rand.NewPCG(9, 5))
	words := 0
	for range 1500 {
		s, m := jumpingModule(r)
		other := mergedModule(t, m)
		args := passes.Arguments(r.IntN, m.Funcs[0].Params)
		events, _ := passes.Whole(s, m, 0, args, 40)
		got, _ := passes.Whole(s, other, 0, args, 40)
		if len(got) < len(events) {
			t.Fatalf("S2: %d events, not %d", len(got), len(events))
		}
		for i, e := range events {
			words += passes.ExpectKnown(t, e, got[i])
		}
	}
	if words < 2000 {
		t.Errorf("only %d words are known", words)
	}
}

// The events of a merged program are those of the interpreter, with all words, also if it was folded.
func TestProgramsByChance(t *testing.T) {
	r := rand.New(rand.NewPCG(9, 6))
	merged, more := 0, 0
	for range 400 {
		s, m := passes.Program(t, r.IntN)
		other := mergedModule(t, m)
		if !passes.EqualModules(m, other) {
			merged++
		}
		folded := api.Module{}
		for _, c := range m.Funcs {
			folded.Funcs = append(folded.Funcs, fold.Fold(c))
		}
		both := mergedModule(t, folded)
		if len(both.Funcs[0].Blocks) < len(other.Funcs[0].Blocks) {
			more++
		}
		for f, c := range m.Funcs {
			args := passes.Arguments(r.IntN, c.Params)
			passes.ExpectSame(t, s, m, other, f, args, 300)
			passes.ExpectSame(t, s, m, both, f, args, 300)
			passes.ExpectInterpreted(t, s, other, f, args, 300)
			passes.ExpectInterpreted(t, s, both, f, args, 300)
		}
	}
	t.Logf("%d of 400 programs are merged, %d further if they are folded", merged, more)
	if merged < 200 || more < 20 {
		t.Errorf("only %d programs are merged, and %d further if they are folded", merged, more)
	}
}
