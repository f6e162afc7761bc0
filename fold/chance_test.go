package fold

import (
	"math/rand/v2"
	"testing"

	"debugger/api"
	"debugger/modules"
	"debugger/notation"
	"debugger/passes"
)

// foldedModule returns a module of folded functions, each of which is checked against the second implementation.
func foldedModule(t *testing.T, m api.Module) api.Module {
	t.Helper()
	result := passes.Applied(t, "P8.2", Fold, reckon, m)
	// Everything that can be known is known at once.
	for _, c := range result.Funcs {
		if again := Fold(c); !passes.Equal(again, c) {
			t.Fatalf("P8.2:\n%s\nis folded again, to\n%s", notation.Print(c), notation.Print(again))
		}
	}
	return result
}

func TestModulesByChance(t *testing.T) {
	r := rand.New(rand.NewPCG(8, 1))
	changed, ended := 0, 0
	for range 2000 {
		s, m := modules.Module(r.IntN)
		other := foldedModule(t, m)
		if !passes.EqualModules(m, other) {
			changed++
		}
		for range 2 {
			f := r.IntN(len(m.Funcs))
			args := passes.Arguments(r.IntN, m.Funcs[f].Params)
			if o := passes.ExpectSame(t, s, m, other, f, args, r.IntN(80)); o.Err == api.OK {
				ended++
			}
		}
	}
	t.Logf("%d of 2000 modules are changed, %d runs ended", changed, ended)
	if changed < 1500 || ended < 1000 {
		t.Errorf("only %d modules are changed, and %d runs ended", changed, ended)
	}
}

// The events of a folded program are those of the interpreter, with all words.
func TestProgramsByChance(t *testing.T) {
	r := rand.New(rand.NewPCG(8, 2))
	changed := 0
	for range 400 {
		s, m := passes.Program(t, r.IntN)
		other := foldedModule(t, m)
		if !passes.EqualModules(m, other) {
			changed++
		}
		for f, c := range m.Funcs {
			args := passes.Arguments(r.IntN, c.Params)
			passes.ExpectSame(t, s, m, other, f, args, 100)
			passes.ExpectInterpreted(t, s, other, f, args, 100)
		}
	}
	if changed < 200 {
		t.Errorf("only %d programs are changed", changed)
	}
}

// Codes in which anything is changed come back as they are, or are folded if they are sound still.
func TestChangedCodes(t *testing.T) {
	r := rand.New(rand.NewPCG(8, 3))
	if sound := passes.ExpectChanged(t, "P8.1", Fold, reckon, r.IntN, 4000); sound < 500 || sound > 3000 {
		t.Errorf("%d of 4000 codes are sound", sound)
	}
}
