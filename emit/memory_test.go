package emit

import (
	"fmt"
	"math/rand/v2"
	"testing"

	"debugger/api"
	"debugger/duplicate"
	"debugger/modules"
	"debugger/optimised"
	"debugger/passes"
)

// note notes the places of the elements of a list, up to its capacity, and tells whether none of them was noted before.
func note[T any](seen map[any]bool, list []T) bool {
	list = list[:cap(list)]
	for i := range list {
		if seen[&list[i]] {
			return false
		}
		seen[&list[i]] = true
	}
	return true
}

// noteUnit does so with all slices of a unit.
func noteUnit(seen map[any]bool, u api.Unit) bool {
	apart := note(seen, u.Words) && note(seen, u.Funcs)
	for _, f := range u.Funcs {
		apart = apart && note(seen, f.Rows) && note(seen, f.Ranges) && note(seen, f.Sites) && note(seen, f.Steps) && note(seen, f.Objects) && note(seen, f.Contexts)
		for _, r := range f.Ranges {
			apart = apart && note(seen, r.Places)
		}
		for _, s := range f.Sites {
			apart = apart && note(seen, s.Args)
		}
	}
	return apart
}

// noteModule notes what a module has of the types that a unit has.
func noteModule(seen map[any]bool, m api.Module) bool {
	apart := true
	for _, c := range m.Funcs {
		apart = apart && note(seen, c.Contexts)
		for _, b := range c.Blocks {
			apart = apart && note(seen, b.Term.Args) && note(seen, b.Term.To[0].Args) && note(seen, b.Term.To[1].Args)
		}
	}
	return apart
}

// spoil makes everything in the memory of a unit zero.
func spoil(u api.Unit) {
	clear(u.Words[:cap(u.Words)])
	for _, f := range u.Funcs {
		for _, r := range f.Ranges {
			clear(r.Places[:cap(r.Places)])
		}
		for _, s := range f.Sites {
			clear(s.Args[:cap(s.Args)])
		}
		clear(f.Rows[:cap(f.Rows)])
		clear(f.Ranges[:cap(f.Ranges)])
		clear(f.Sites[:cap(f.Sites)])
		clear(f.Steps[:cap(f.Steps)])
		clear(f.Objects[:cap(f.Objects)])
		clear(f.Contexts[:cap(f.Contexts)])
	}
	clear(u.Funcs[:cap(u.Funcs)])
}

// expectNew checks that the units of a module are new memory, that the module stays as it is, and that its unit is always the same.
func expectNew(t *testing.T, m api.Module, keep bool) {
	t.Helper()
	roomy, whole := api.Module{}, api.Module{}
	for _, c := range m.Funcs {
		roomy.Funcs = append(roomy.Funcs, passes.Roomy(c))
	}
	for _, c := range roomy.Funcs {
		whole.Funcs = append(whole.Funcs, passes.Stretched(c))
	}
	before := duplicate.Module(whole)
	first, e := Emit(roomy, keep)
	again, err := Emit(roomy, keep)
	want := fmt.Sprint(first)
	if e != api.OK || err != api.OK || fmt.Sprint(again) != want {
		t.Fatalf("P3: the errors are %d and %d, or the second unit is another one: %s", e, err, passes.PrintModule(m))
	}
	seen := map[any]bool{}
	if !noteModule(seen, roomy) || !noteUnit(seen, first) || !noteUnit(seen, again) {
		t.Errorf("P2: two slices share memory: %s", passes.PrintModule(m))
	}
	spoil(first)
	if !passes.EqualModules(whole, before) {
		t.Fatalf("P2: the argument is changed: %s", passes.PrintModule(before))
	}
	third, _ := Emit(roomy, keep)
	closed := api.Module{}
	for _, c := range m.Funcs {
		closed.Funcs = append(closed.Funcs, passes.Close(c))
	}
	fourth, _ := Emit(closed, keep)
	if fmt.Sprint(again) != want || fmt.Sprint(third) != want || fmt.Sprint(fourth) != want {
		t.Errorf("P3: the unit changes with an earlier one, or with the capacity: %s", passes.PrintModule(m))
	}
}

func TestMemory(t *testing.T) {
	for _, keep := range []bool{false, true} {
		expectNew(t, passes.ParseModule(t, passes.Sound), keep)
		expectNew(t, passes.ParseModule(t, "context 0 1 0\nobject 0 0 2\n(2) v2 = 1099511627776; bind 0 to v0; bind 1 to v0; bind 2 to constant; mark 3; call 1(v1 v2) 1(v0) 1(v1)\n(2) at 4; tail 1(v0 v1)", "(2) return v1"), keep)
		expectNew(t, api.Module{}, keep)
	}
}

func TestMemoryByChance(t *testing.T) {
	r := rand.New(rand.NewPCG(17, 1))
	for range 100 {
		_, wide := modules.Wide(r.IntN)
		_, program := passes.Program(t, r.IntN)
		for _, m := range []api.Module{wide, optimised.Module(program, r.IntN(3))} {
			if _, e := Emit(m, false); e == api.OK {
				expectNew(t, m, r.IntN(2) > 0)
			}
		}
	}
}
