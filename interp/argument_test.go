package interp

import (
	"testing"

	"debugger/api"
)

const short = `func f(a) {
	print a;
	a = g(a, 2);
	print a;
}
func g(a, b) {
	return a * b;
}
func h() {
	throw 7;
}
func k(a, b, c, d) {
	return d;
}
`

func TestArguments(t *testing.T) {
	s := source(t, short)
	for _, c := range []struct {
		f, args, steps, from, most int
		ok                         bool
	}{
		{0, 1, 100, 0, 10, true},
		{-1, 1, 100, 0, 10, false},
		{-1 << 63, 1, 100, 0, 10, false},
		{1, 2, 100, 0, 10, true},
		{2, 0, 100, 0, 10, true},
		{3, 4, 100, 0, 10, true},
		{4, 0, 100, 0, 10, false},
		{1<<63 - 1, 0, 100, 0, 10, false},
		{0, 0, 100, 0, 10, false},
		{0, 2, 100, 0, 10, false},
		{2, 1, 100, 0, 10, false},
		{3, 3, 100, 0, 10, false},
		{3, 5, 100, 0, 10, false},
		{0, 1, 0, 0, 10, true},
		{0, 1, -1, 0, 10, false},
		{0, 1, least, 0, 10, false},
		{0, 1, api.MaxSteps, 0, 10, true},
		{0, 1, api.MaxSteps + 1, 0, 10, false},
		{0, 1, greatest, 0, 10, false},
		{0, 1, 100, -1, 10, false},
		{0, 1, 100, least, 10, false},
		{0, 1, 100, greatest, 10, true},
		{0, 1, 100, greatest, 100, true},
		{0, 1, 100, 0, 0, true},
		{0, 1, 100, 0, -1, false},
		{0, 1, 100, 0, least, false},
		{0, 1, 100, 0, 100, true},
		{0, 1, 100, 0, 101, false},
		{0, 1, 100, 0, greatest, false},
	} {
		args := []int{3, 4, 5, 6, 7}[:c.args]
		events, o := Trace(s, c.f, args, c.steps, c.from, c.most)
		if !c.ok && (len(events) > 0 || key(o) != key(api.Outcome{Err: api.ErrArg})) {
			t.Errorf("P5.1: Trace of %+v = %v, %+v, not ErrArg alone", c, events, o)
		}
		if c.ok && o.Err != api.OK && !(c.steps == 0 && o.Err == api.ErrFuel) {
			t.Errorf("P5.1: Trace of %+v has the error %d", c, o.Err)
		}
	}
	for _, args := range [][]int{nil, {}} {
		if _, o := Trace(s, 2, args, 10, 0, 10); describe(o) != "thrown 7" {
			t.Errorf("P6: Trace without arguments, %#v, has %s", args, describe(o))
		}
	}
}

func TestNoFunctions(t *testing.T) {
	for _, s := range []api.Source{{}, source(t, ""), source(t, "record R { a }")} {
		if events, o := Trace(s, 0, nil, 10, 0, 10); len(events) > 0 || key(o) != key(api.Outcome{Err: api.ErrArg}) {
			t.Errorf("P5.1: Trace without functions = %v, %+v", events, o)
		}
	}
}

// Each window of events is a part of all of them, and leaves the outcome as it is.
func TestWindows(t *testing.T) {
	s := source(t, "func f(a) { while a { print a; a = a - 1; } throw 9; }")
	all, o := whole(s, 0, []int{40}, api.MaxSteps)
	if len(all) != 122 || o.Value != 9 || !o.Thrown {
		t.Fatalf("P5.1: there are %d events and the outcome %+v", len(all), o)
	}
	for from := range 130 {
		for _, most := range []int{0, 1, 2, 30, 99, 100} {
			events, other := Trace(s, 0, []int{40}, api.MaxSteps, from, most)
			low := min(from, len(all))
			if want := all[low:min(from+most, len(all))]; key(events) != key(want) {
				t.Errorf("P5.1: from %d on at most %d events: the statements are %s, not %s", from, most, stops(events), stops(want))
			}
			if key(other) != key(o) {
				t.Errorf("P5.1: from %d on at most %d events: the outcome is %+v", from, most, other)
			}
		}
	}
	for _, from := range []int{greatest - 100, greatest - 1, greatest} {
		if events, other := Trace(s, 0, []int{40}, api.MaxSteps, from, 100); len(events) > 0 || key(other) != key(o) {
			t.Errorf("P5.1: from %d on there are the events %s and the outcome %+v", from, stops(events), other)
		}
	}
}

// A run that needs n events ends with ErrFuel at each number of steps below n, with the events and the output until then.
func TestFuel(t *testing.T) {
	s := source(t, short)
	all, _ := whole(s, 0, []int{21}, api.MaxSteps)
	if got := stops(all); got != "0 1 2:4 2 3" {
		t.Fatalf("P5.2: the events are %s", got)
	}
	wants := []string{"error 13", "error 13 output 21", "error 13 output 21", "error 13 output 21", "error 13 output 21 42", "value 0 output 21 42"}
	for steps := range 8 {
		events, o := Trace(s, 0, []int{21}, steps, 0, 100)
		if key(events) != key(all[:min(steps, len(all))]) {
			t.Errorf("P5.2: with %d steps the events are %s", steps, stops(events))
		}
		if got, want := describe(o), wants[min(steps, len(wants)-1)]; got != want {
			t.Errorf("P5.2: with %d steps the outcome is %q, not %q", steps, got, want)
		}
	}
}

func TestFuelOfLoops(t *testing.T) {
	for _, text := range []string{"func f() { while 1 { } }", "func f() { var i: int; while 1 { i = i + 1; if i { } } }", "func f() { while 1 { try { throw 1; } catch e { } } }"} {
		s := source(t, text)
		for _, steps := range []int{0, 1, 2, 3, 99, 100, 101, api.MaxSteps - 1, api.MaxSteps} {
			events, o := whole(s, 0, nil, steps)
			if describe(o) != "error 13" || len(events) != steps {
				t.Errorf("P5.2: %q with %d steps has %d events and %s", text, steps, len(events), describe(o))
			}
		}
	}
	s := source(t, "func f(a) { while a { a = a - 1; } }")
	if events, o := whole(s, 0, []int{2499}, api.MaxSteps); len(events) != 5000 || describe(o) != "value 0" {
		t.Errorf("P5.2: a run of all steps has %d events and %s", len(events), describe(o))
	}
	if events, o := whole(s, 0, []int{2499}, api.MaxSteps-1); len(events) != 4999 || describe(o) != "error 13" {
		t.Errorf("P5.2: a run of one step less has %d events and %s", len(events), describe(o))
	}
}

// ErrFuel is not caught, and comes ahead of what the statement would do.
func TestFuelAheadOfTheStatement(t *testing.T) {
	for _, c := range []struct {
		text, want string
		steps      int
	}{
		{"func f() { try { print 1; print 2; } catch e { print 3; } }", "error 13 output 1", 2},
		{"func f() { try { print 1; throw 2; } catch e { print 3; } }", "error 13 output 1", 2},
		{"func f() { try { print 1; throw 2; } catch e { print e; } }", "error 13 output 1", 3},
		{"func f() { try { print 1; throw 2; } catch e { print e; } }", "error 13 output 1 2", 4},
		{"func f() { try { g(); } catch e { print e; } } func g() { try { print 4; print 5; } catch e { print e; } }", "error 13 output 4", 4},
		{"func f() { return 5; }", "error 13", 0},
		{"func f() { return 5; }", "value 5", 1},
		{"func f() { throw 5; }", "thrown 5", 1},
		{"func f() { }", "error 13", 0},
		{"func f() { }", "value 0", 1},
		{"func f() { print 1 / 0; }", "error 13", 0},
		{"func f() { print 1 / 0; }", "thrown 1", 1},
		{"func f() { g(); } func g() { }", "error 13", 1},
		{"func f() { g(); } func g() { }", "error 13", 2},
		{"func f() { g(); } func g() { }", "value 0", 3},
	} {
		if _, o := Trace(source(t, c.text), 0, nil, c.steps, 0, 0); describe(o) != c.want {
			t.Errorf("P5.2: %q with %d steps has %q, not %q", c.text, c.steps, describe(o), c.want)
		}
	}
}

// An error has neither a value nor a thrown one beside it.
func TestErrorsHaveNoValue(t *testing.T) {
	// Two activations have five events.
	s := source(t, "func f(a) { print a; return g(a + 1); } func g(a) { try { throw a; } catch e { return f(e); } }")
	for steps := range 60 {
		_, o := Trace(s, 0, []int{5}, steps, 0, 0)
		printed := []int{}
		for i := 0; i < steps && i < 5*api.MaxCalls/2; i += 5 {
			printed = append(printed, 5+i/5)
		}
		want := api.Outcome{Err: api.ErrFuel, Output: printed}
		if steps >= 5*api.MaxCalls/2 {
			want.Err = api.ErrLimit
		}
		if key(o) != key(want) {
			t.Errorf("P5.2: with %d steps the outcome is %s, not %s", steps, key(o), key(want))
		}
	}
}
