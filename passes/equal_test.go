package passes

import (
	"testing"

	"debugger/api"
)

// shownAs returns an event with a frame in which the variables 0, 1 and so on have one word each; -1: it is not known.
func shownAs(stmt int, words ...int) api.Event {
	f := api.Frame{Stmt: stmt}
	for v, w := range words {
		f.Vars = append(f.Vars, api.Shown{Var: v, Known: []bool{w >= 0}, Words: []int{max(w, 0)}})
	}
	return api.Event{Frames: []api.Frame{f}}
}

func TestEvents(t *testing.T) {
	list := func(events ...api.Event) []api.Event { return events }
	twice := list(shownAs(3, 5, 6), shownAs(4, 7))
	other := shownAs(3, 5)
	other.Frames[0].Vars[0].Var = 1
	long := shownAs(3, 5)
	long.Frames[0].Vars[0].Words, long.Frames[0].Vars[0].Known = []int{5, 0}, []bool{true, false}
	deep := shownAs(3, 5)
	deep.Frames = append(deep.Frames, api.Frame{Stmt: -1})
	for i, c := range []struct {
		a, b                 []api.Event
		equal, within, agree bool
	}{
		{nil, list(), true, true, true},
		{twice, list(shownAs(3, 5, 6), shownAs(4, 7)), true, true, true},
		{twice, list(shownAs(3, 5, 6)), false, false, false},
		{twice, list(shownAs(3, 5, 6), shownAs(5, 7)), false, false, false},
		{twice, list(shownAs(3, 5, 6), shownAs(4, 7, 8)), false, false, false},
		{twice, list(shownAs(3, 5, 9), shownAs(4, 7)), false, false, false},
		{twice, list(shownAs(3, 5, -1), shownAs(4, 7)), false, false, true},
		{list(shownAs(3, 5, -1), shownAs(4, 7)), twice, false, true, true},
		{list(shownAs(3, -1, 6)), list(shownAs(3, 5, -1)), false, false, true},
		{list(shownAs(3, -1, -1)), list(shownAs(3, -1, -1)), true, true, true},
		{list(shownAs(3, 5)), list(other), false, false, false},
		{list(shownAs(3, 5)), list(long), false, false, false},
		{list(shownAs(3, 5)), list(deep), false, false, false},
	} {
		if EqualEvents(c.a, c.b) != c.equal || Within(c.a, c.b) != c.within || Agree(c.a, c.b) != c.agree || Agree(c.b, c.a) != c.agree {
			t.Errorf("%d: %v and %v are equal %t, within %t, agree %t", i, c.a, c.b, EqualEvents(c.a, c.b), Within(c.a, c.b), Agree(c.a, c.b))
		}
	}
	if n := Words(list(shownAs(3, 5, -1, 0), long, shownAs(4), deep)); n != 4 {
		t.Errorf("%d words are known, not 4", n)
	}
}
