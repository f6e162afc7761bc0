package emit

import (
	"fmt"
	"math/rand/v2"
	"strings"
	"testing"

	"debugger/api"
	"debugger/ir"
	"debugger/modules"
	"debugger/optimised"
	"debugger/passes"
)

// tally counts what units have: words of code and of pools, rows and those without a position, ranges and those with several places, places of each kind, sites, those of tail calls, and the places of their arguments, steps, and R0 as the target of a ring.
type tally struct {
	units, words, pool, rows, unknown, ranges, several, sites, tails, steps, rings int
	places, arguments                                                              [5]int
}

func (x *tally) count(u api.Unit) {
	x.units++
	x.words, x.pool = x.words+u.Code, x.pool+len(u.Words)-u.Code
	x.rings += strings.Count(shown(u.Words), "move r0 ") - strings.Count(shown(u.Words), "; const r13")
	for _, f := range u.Funcs {
		x.rows, x.ranges, x.sites, x.steps = x.rows+len(f.Rows), x.ranges+len(f.Ranges), x.sites+len(f.Sites), x.steps+len(f.Steps)
		for _, r := range f.Rows {
			if r.Stmt < 0 {
				x.unknown++
			}
		}
		for _, r := range f.Ranges {
			if len(r.Places) > 1 {
				x.several++
			}
			for _, p := range r.Places {
				x.places[p.Kind]++
			}
		}
		for _, s := range f.Sites {
			if s.Tail {
				x.tails++
			}
			for _, p := range s.Args {
				x.arguments[p.Kind]++
			}
		}
	}
}

// expectUnit checks the units of a sound module against the second implementation.
func (x *tally) expectUnit(t *testing.T, m api.Module, keep bool) {
	t.Helper()
	u, e := result(t, m, keep)
	want, err, _ := reckon(m, keep)
	if e != err || fmt.Sprint(u) != fmt.Sprint(want) {
		t.Fatalf("P17.1 to P17.9: with keep %t the unit is\n%+v, the error %d, not\n%+v and %d, for\n%s", keep, u, e, want, err, passes.PrintModule(m))
	}
	x.count(u)
}

func TestModulesByChance(t *testing.T) {
	r := rand.New(rand.NewPCG(17, 4))
	x := [2][2]tally{}
	for range 500 {
		_, narrow := modules.Module(r.IntN)
		_, wide := modules.Wide(r.IntN)
		for n, keep := range []bool{false, true} {
			x[0][n].expectUnit(t, narrow, keep)
			x[1][n].expectUnit(t, wide, keep)
		}
	}
	for _, x := range x {
		for keep, x := range x {
			t.Logf("%+v", x)
			if x.words < 20000 || x.rows < 10000 || x.ranges < 2000 || min(x.unknown, x.pool) < 500 || min(x.several, x.sites, x.steps) < 300 || min(x.tails, x.rings) < 100 {
				t.Errorf("only %+v", x)
			}
			if min(x.arguments[0], x.arguments[api.PlaceConst], x.arguments[api.PlaceSlot]) < 200 {
				t.Errorf("only %+v", x)
			}
			if min(x.places[api.PlaceConst], x.places[api.PlaceReg]) < 500 || x.places[api.PlaceSlot] < 200 || (keep == 0) != (x.places[api.PlaceEntry] > 200) {
				t.Errorf("only %+v", x)
			}
		}
	}
}

// Modules in which anything is changed have a unit only if ir.Check accepts them.
func TestChangedModules(t *testing.T) {
	r := rand.New(rand.NewPCG(17, 5))
	x, refused := tally{}, 0
	for range 3000 {
		_, m := modules.Module(r.IntN)
		f := r.IntN(len(m.Funcs))
		for range 1 + r.IntN(2) {
			m.Funcs[f] = passes.Changed(r.IntN, m.Funcs[f])
		}
		if e := ir.Check(m); e != api.OK {
			refused++
			expectRefused(t, "a changed module", m, e)
			continue
		}
		x.expectUnit(t, m, r.IntN(2) > 0)
	}
	if refused < 500 || x.units < 500 {
		t.Errorf("only %d modules are refused, and %+v", refused, x)
	}
}

// The code of programs has units behind the passes of every level.
func TestUnitsOfPrograms(t *testing.T) {
	r := rand.New(rand.NewPCG(17, 6))
	x := [3][2]tally{}
	for range 300 {
		_, m := passes.Program(t, r.IntN)
		for level := range x {
			other := optimised.Module(m, level)
			for n, keep := range []bool{false, true} {
				x[level][n].expectUnit(t, other, keep)
			}
		}
	}
	for _, x := range x {
		for _, x := range x {
			t.Logf("%+v", x)
			if min(x.words, x.ranges) < 5000 || x.rows < 3000 || min(x.unknown, x.several) < 500 || x.pool < 50 || min(x.sites, x.rings) < 100 {
				t.Errorf("only %+v", x)
			}
		}
	}
}
