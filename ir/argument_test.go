package ir

import (
	"slices"
	"strings"
	"testing"

	"debugger/api"
)

// short returns functions with 1, 2, 0 and 4 parameters; the first has three events.
func short(t *testing.T) api.Module {
	return module(t,
		"(1) bind 0 to v0; mark 0; print v0; v1 = 2; call 1(v0 v1) 1()\n(1) bind 0 to v0; mark 2; return v0",
		"(2) v2 = v0 * v1; mark 1; return v2",
		"(0) v0 = 7; throw v0",
		"(4) return v3")
}

func TestArguments(t *testing.T) {
	m, s := short(t), scalars(4, 1)
	for _, c := range []struct {
		f, args, steps, from, most int
		ok                         bool
	}{
		{0, 1, 100, 0, 10, true},
		{-1, 1, 100, 0, 10, false},
		{least, 1, 100, 0, 10, false},
		{1, 2, 100, 0, 10, true},
		{2, 0, 100, 0, 10, true},
		{3, 4, 100, 0, 10, true},
		{4, 0, 100, 0, 10, false},
		{greatest, 0, 100, 0, 10, false},
		{0, 0, 100, 0, 10, false},
		{0, 2, 100, 0, 10, false},
		{2, 1, 100, 0, 10, false},
		{3, 3, 100, 0, 10, false},
		{3, 5, 100, 0, 10, false},
		{0, 1, 0, 0, 10, true},
		{0, 1, -1, 0, 10, false},
		{0, 1, least, 0, 10, false},
		{0, 1, api.MaxSteps, 0, 10, true},
		{0, 1, api.MaxSteps + 1, 0, 10, false},
		{0, 1, greatest, 0, 10, false},
		{0, 1, 100, -1, 10, false},
		{0, 1, 100, least, 10, false},
		{0, 1, 100, greatest, 10, true},
		{0, 1, 100, greatest, 100, true},
		{0, 1, 100, 0, 0, true},
		{0, 1, 100, 0, -1, false},
		{0, 1, 100, 0, least, false},
		{0, 1, 100, 0, 100, true},
		{0, 1, 100, 0, 101, false},
		{0, 1, 100, 0, greatest, false},
	} {
		events, o := Trace(s, m, c.f, make([]int, c.args), c.steps, c.from, c.most)
		if refused := o.Err == api.ErrArg; refused == c.ok {
			t.Errorf("P6.3: Trace of %+v has the outcome %+v", c, o)
		}
		if !c.ok && (len(events) > 0 || key(o) != key(api.Outcome{Err: api.ErrArg})) {
			t.Errorf("P6.3: Trace of %+v has %d events and the outcome %+v", c, len(events), o)
		}
	}
	if _, o := Trace(s, api.Module{}, 0, nil, 100, 0, 10); key(o) != key(api.Outcome{Err: api.ErrArg}) {
		t.Errorf("P6.3: without a function the outcome is %+v", o)
	}
	// The functions are those of the module, whatever the source has.
	if _, o := Trace(api.Source{}, m, 3, []int{1, 2, 3, 4}, 0, 0, 0); describe(o) != "value 4" {
		t.Errorf("P6.3: without a source the outcome is %+v", o)
	}
}

// The error of the module comes ahead of the one of the arguments.
func TestErrorsOfModules(t *testing.T) {
	large := module(t, plain, plain)
	large.Funcs[1] = tooMany(t)
	for about, m := range map[string]api.Module{
		"a function in a bad form": module(t, plain, bad),
		"a wrong call":             module(t, plain, "(0) tail 2()"),
		"a wrong context":          {Funcs: []api.Code{code(t, plain), code(t, plain)}},
		"too many functions":       module(t, slices.Repeat([]string{plain}, 9)...),
		"too many operations":      large,
	} {
		want := Check(m)
		if want == api.OK {
			t.Errorf("P6.2: %s is no error", about)
		}
		for _, f := range []int{0, -1, 100} {
			events, o := Trace(api.Source{}, m, f, nil, 100, 0, 100)
			if len(events) > 0 || key(o) != key(api.Outcome{Err: want}) {
				t.Errorf("P6.3: %s: %d events and the outcome %+v", about, len(events), o)
			}
		}
	}
}

func TestWindows(t *testing.T) {
	m, s := module(t, "(2) jump 1(v0)\n(1) bind 0 to v0; mark 3; print v0; v1 = 1; v2 = v0 - v1; branch v2 1(v2) 2(v2)\n(1) return v0"), scalars(1, 1)
	args := []int{7, 0}
	events, o := Trace(s, m, 0, args, 100, 0, 100)
	if len(events) != 7 || describe(o) != "value 0 output 7 6 5 4 3 2 1" {
		t.Fatalf("P6.3: %d events and %s", len(events), describe(o))
	}
	for from := range 10 {
		for most := range 10 {
			part, other := Trace(s, m, 0, args, 100, from, most)
			want := events[min(from, 7):min(from+most, 7)]
			if key(part) != key(want) || key(other) != key(o) {
				t.Errorf("P6.3: from %d at most %d: %s with %s", from, most, key(part), describe(other))
			}
		}
	}
	args[0] = 250
	for _, c := range [][3]int{{0, 100, 100}, {150, 100, 100}, {151, 100, 99}, {249, 100, 1}, {250, 100, 0}, {greatest, 100, 0}, {100, 30, 30}} {
		events, o := Trace(s, m, 0, args, api.MaxSteps, c[0], c[1])
		if len(events) != c[2] || len(o.Output) != 250 {
			t.Errorf("P6.3: from %d at most %d: %d events", c[0], c[1], len(events))
		}
		for i, e := range events {
			if word := e.Frames[0].Vars[0].Words[0]; word != 250-c[0]-i {
				t.Errorf("P6.3: event %d from %d on has the word %d", i, c[0], word)
			}
		}
	}
}

// With each number of steps the run ends ahead of the event behind the last one.
func TestSteps(t *testing.T) {
	m, s := short(t), scalars(4, 1)
	all, last := Trace(s, m, 0, []int{5}, 100, 0, 100)
	if len(all) != 3 || describe(last) != "value 10 output 5" {
		t.Fatalf("P6.3: %d events and %s", len(all), describe(last))
	}
	for steps := range 5 {
		events, o := Trace(s, m, 0, []int{5}, steps, 0, 100)
		want := last
		if steps < 3 {
			want = api.Outcome{Err: api.ErrFuel}
		}
		if steps == 1 || steps == 2 {
			want.Output = []int{5}
		}
		if key(events) != key(all[:min(steps, 3)]) || key(o) != key(want) {
			t.Errorf("P6.3: with %d steps: %d events and %s", steps, len(events), describe(o))
		}
	}
	// A run without an event needs no step, and events count whether they are returned or not.
	if _, o := Trace(s, m, 3, []int{1, 2, 3, 4}, 0, 0, 0); describe(o) != "value 4" {
		t.Errorf("P6.3: without steps: %s", describe(o))
	}
	if _, o := Trace(s, m, 0, []int{5}, 2, 50, 0); describe(o) != "error 13 output 5" {
		t.Errorf("P6.3: outside the window: %s", describe(o))
	}
	many := module(t, "(0) "+strings.Repeat("mark 0; ", api.MaxSteps)+"v0 = 6; return v0")
	if _, o := Trace(s, many, 0, nil, api.MaxSteps, 0, 0); describe(o) != "value 6" {
		t.Errorf("P6.3: as many events as may be: %s", describe(o))
	}
	many = module(t, "(0) "+strings.Repeat("mark 0; ", api.MaxSteps+1)+"v0 = 6; return v0")
	if _, o := Trace(s, many, 0, nil, api.MaxSteps, 0, 0); describe(o) != "error 13" {
		t.Errorf("P6.3: one event more: %s", describe(o))
	}
	// An At is no event.
	at := module(t, "(0) at 0; mark 1; at 2; at 3; v0 = 4; return v0")
	if events, o := Trace(s, at, 0, nil, 1, 0, 9); len(events) != 1 || describe(o) != "value 4" {
		t.Errorf("P6.3: with At: %d events and %s", len(events), describe(o))
	}
	if _, o := Trace(s, at, 0, nil, 0, 0, 9); describe(o) != "error 13" {
		t.Errorf("P6.3: with At and no step: %s", describe(o))
	}
}
