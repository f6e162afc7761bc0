package alloc

import (
	"math/rand/v2"
	"testing"

	"debugger/api"
	"debugger/duplicate"
	"debugger/modules"
	"debugger/passes"
)

// apart tells whether no two slices of some layouts share memory.
func apart(list ...api.Layout) bool {
	places, firsts := map[*api.Place]bool{}, map[*int]bool{}
	lists := map[*[]api.Place]bool{}
	for _, l := range list {
		all := l.Places[:cap(l.Places)]
		if !note(lists, all) || !note(firsts, l.Objects) {
			return false
		}
		for _, p := range all {
			if !note(places, p) {
				return false
			}
		}
	}
	return true
}

// note notes the places of the elements of a list, up to its capacity, and tells whether none of them was noted before.
func note[T any](seen map[*T]bool, list []T) bool {
	list = list[:cap(list)]
	for i := range list {
		if seen[&list[i]] {
			return false
		}
		seen[&list[i]] = true
	}
	return true
}

// spoil makes everything in the memory of a layout zero.
func spoil(l api.Layout) {
	for _, p := range l.Places {
		clear(p[:cap(p)])
	}
	clear(l.Places[:cap(l.Places)])
	clear(l.Objects[:cap(l.Objects)])
}

// copied returns a copy of a layout.
func copied(l api.Layout) api.Layout {
	places := l.Places
	l.Places, l.Objects = nil, append([]int(nil), l.Objects...)
	for _, p := range places {
		l.Places = append(l.Places, append([]api.Place(nil), p...))
	}
	return l
}

// expectNew checks that the layouts of a code are new memory, that the code stays as it is, and that its layout is always the same.
func expectNew(t *testing.T, c api.Code, keep bool) {
	t.Helper()
	c = passes.Roomy(c)
	before := duplicate.Code(passes.Stretched(c))
	first, again := Allocate(c, keep), Allocate(c, keep)
	want := copied(first)
	if !equal(again, want) {
		t.Errorf("P3: the second layout of %+v is another one", c)
	}
	if !apart(first, again) {
		t.Errorf("P2: two slices share memory: %+v", c)
	}
	spoil(first)
	if !passes.Equal(passes.Stretched(c), before) {
		t.Fatalf("P2: the argument is changed: %+v", before)
	}
	if !equal(Allocate(c, keep), want) || !equal(Allocate(passes.Close(c), keep), want) {
		t.Errorf("P3: the layout of %+v changes with an earlier one, or with the capacity", c)
	}
}

func TestMemory(t *testing.T) {
	for _, keep := range []bool{false, true} {
		expectNew(t, passes.Parse(t, passes.Sound), keep)
		expectNew(t, passes.Parse(t, "(0) jump 1()\n(0) jump 1()\n(1) return v0"), keep)
		expectNew(t, passes.Parse(t, "object 0 0 2\nobject 0 1 3\n(2) call 0(v1) 1(v0) 1(v1)\n(2) return v1"), keep)
		expectNew(t, api.Code{}, keep)
	}
	expectNew(t, passes.Largest(t), true)
}

func TestMemoryByChance(t *testing.T) {
	r := rand.New(rand.NewPCG(15, 5))
	for range 200 {
		_, m := modules.Wide(r.IntN)
		for _, c := range m.Funcs {
			expectNew(t, c, r.IntN(2) > 0)
		}
	}
}
