package alloc

import (
	"slices"
	"strconv"
	"strings"
	"testing"

	"debugger/api"
	"debugger/duplicate"
	"debugger/ir"
	"debugger/passes"
)

// lines returns texts with a line for each.
func lines(texts ...string) string { return strings.Join(texts, "\n") }

// layout returns the layout of a sound code, and checks that this stays as it is.
func layout(t *testing.T, c api.Code, keep bool) api.Layout {
	t.Helper()
	if e := ir.CheckCode(c); e != api.OK {
		t.Fatalf("the error of %+v is %d", c, e)
	}
	before := duplicate.Code(passes.Stretched(c))
	l := Allocate(c, keep)
	if !passes.Equal(passes.Stretched(c), before) {
		t.Fatalf("P2: the argument %+v is changed", before)
	}
	return l
}

// shown returns places as a text: r1 is a register, s0 a slot, and - no place.
func shown(places []api.Place) string {
	texts := []string{}
	for _, p := range places {
		switch p {
		case api.Place{Kind: api.PlaceReg, N: p.N}:
			texts = append(texts, "r"+strconv.Itoa(p.N))
		case api.Place{Kind: api.PlaceSlot, N: p.N}:
			texts = append(texts, "s"+strconv.Itoa(p.N))
		case api.Place{}:
			texts = append(texts, "-")
		default:
			texts = append(texts, "?")
		}
	}
	return strings.Join(texts, " ")
}

// expectPlaces checks the places of a code of package notation, with a text for each of the first blocks.
func expectPlaces(t *testing.T, promise, text string, keep bool, want ...string) {
	t.Helper()
	l := layout(t, passes.Parse(t, text), keep)
	for i := range want {
		if got := shown(l.Places[i]); got != want[i] {
			t.Errorf("%s: with keep %t the places of block %d are\n%s, not\n%s, in\n%s", promise, keep, i, got, want[i], text)
		}
	}
}

// expectBoth checks the places of a code with keep and without.
func expectBoth(t *testing.T, promise, text string, want ...string) {
	t.Helper()
	expectPlaces(t, promise, text, false, want...)
	expectPlaces(t, promise, text, true, want...)
}

// equal tells whether two layouts are the same; nil and empty slices are.
func equal(a, b api.Layout) bool {
	return a.Slots == b.Slots && a.Saves == b.Saves && a.Size == b.Size && slices.Equal(a.Objects, b.Objects) &&
		slices.EqualFunc(a.Places, b.Places, slices.Equal[[]api.Place])
}

// zero tells whether a layout is a zero one.
func zero(l api.Layout) bool { return l.Places == nil && equal(l, api.Layout{}) }

// number returns a word with a number behind it.
func number(word string, n int) string { return word + strconv.Itoa(n) }

// constants returns the operations that define values, from one up to the one ahead of another.
func constants(from, to int) string {
	text := ""
	for v := from; v < to; v++ {
		text += number("v", v) + " = 1; "
	}
	return text
}

// prints returns the operations that print values, from one up to the one ahead of another.
func prints(from, to int) string {
	text := ""
	for v := from; v < to; v++ {
		text += number("print v", v) + "; "
	}
	return text
}

// arguments returns the arguments of an edge: a value, so many times.
func arguments(v, count int) string { return strings.Repeat(number("v", v)+" ", count) }

// zeros returns the arguments of an edge, so many times value 0.
func zeros(count int) string { return arguments(0, count) }

// dashes shows so many numbers that have no place, ahead of others.
func dashes(count int) string { return strings.Repeat("- ", count) }
