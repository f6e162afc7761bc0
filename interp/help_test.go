package interp

import (
	"fmt"
	"strings"
	"testing"

	"debugger/api"
	"debugger/checker"
	"debugger/parser"
)

const (
	least    = -1 << 63
	greatest = 1<<63 - 1
)

// key returns a text that two values have in common only if they are the same; nil and empty slices are.
func key(v any) string { return fmt.Sprintf("%+v", v) }

// source returns the checked program of a text.
func source(t *testing.T, text string) api.Source {
	t.Helper()
	p, line, e := parser.Parse(text)
	if e != api.OK {
		t.Fatalf("%.300q is no program: error %d in line %d", text, e, line)
	}
	s, line, e := checker.Check(p)
	if e != api.OK {
		t.Fatalf("%.300q is refused: error %d in line %d", text, e, line)
	}
	return s
}

// whole returns all events of a run, and its outcome.
func whole(s api.Source, f int, args []int, steps int) ([]api.Event, api.Outcome) {
	all := []api.Event{}
	for {
		events, o := Trace(s, f, args, steps, len(all), 100)
		all = append(all, events...)
		if len(events) < 100 {
			return all, o
		}
	}
}

// outcome returns that of a run of the first function.
func outcome(t *testing.T, text string, args ...int) api.Outcome {
	t.Helper()
	_, o := Trace(source(t, text), 0, args, api.MaxSteps, 0, 0)
	return o
}

// expectOutcome checks the outcome of a run of the first function, given as "value 3", "thrown 3" or "error 3", with " output 1 2" behind it if there is some.
func expectOutcome(t *testing.T, promise, text, want string, args ...int) {
	t.Helper()
	if got := describe(outcome(t, text, args...)); got != want {
		t.Errorf("%s: %.400q with %v has %q, not %q", promise, text, args, got, want)
	}
}

// describe returns an outcome as a text.
func describe(o api.Outcome) string {
	text := fmt.Sprintf("value %d", o.Value)
	if o.Thrown {
		text = fmt.Sprintf("thrown %d", o.Value)
	}
	if o.Err != api.OK {
		text = fmt.Sprintf("error %d", o.Err)
		if o.Thrown || o.Value != 0 {
			text += " and a value"
		}
	}
	if len(o.Output) > 0 {
		text += " output " + words(o.Output)
	}
	return text
}

// words returns numbers as a text.
func words(list []int) string { return strings.Trim(fmt.Sprint(list), "[]") }

// stops returns the numbers of the statements that begin, with the number of frames ahead of each if there are several.
func stops(events []api.Event) string {
	list := []string{}
	for _, e := range events {
		text := fmt.Sprint(e.Frames[0].Stmt)
		if n := len(e.Frames); n > 1 {
			text = fmt.Sprintf("%d:%s", n, text)
		}
		list = append(list, text)
	}
	return strings.Join(list, " ")
}

// expectStops checks which statements begin in a run of the first function.
func expectStops(t *testing.T, promise, text, want string, args ...int) {
	t.Helper()
	events, _ := whole(source(t, text), 0, args, api.MaxSteps)
	if got := stops(events); got != want {
		t.Errorf("%s: %.400q with %v has the events %q, not %q", promise, text, args, got, want)
	}
}

// frames returns an event as a text: "f 3 a=1 t=1,2" for each frame, the innermost one first.
func frames(s api.Source, e api.Event) string {
	list := []string{}
	for _, f := range e.Frames {
		text := fmt.Sprintf("%s %d", s.Program.Funcs[f.Func].Name, f.Stmt)
		for _, v := range f.Vars {
			text += " " + shown(s.Vars[f.Func][v.Var], v)
		}
		list = append(list, text)
	}
	return strings.Join(list, " < ")
}

func shown(info api.VarInfo, v api.Shown) string {
	list := []string{}
	for i, w := range v.Words {
		text := fmt.Sprint(w)
		if len(v.Known) != len(v.Words) || !v.Known[i] {
			text = "unknown"
		}
		list = append(list, text)
	}
	if len(v.Words) != info.Words {
		list = append(list, "wrong number of words")
	}
	return info.Name + "=" + strings.Join(list, ",")
}

// expectFrames checks all events of a run of the first function.
func expectFrames(t *testing.T, promise, text string, args []int, want ...string) {
	t.Helper()
	s := source(t, text)
	events, _ := whole(s, 0, args, api.MaxSteps)
	for i := range max(len(events), len(want)) {
		got, expected := "none", "none"
		if i < len(events) {
			got = frames(s, events[i])
		}
		if i < len(want) {
			expected = want[i]
		}
		if got != expected {
			t.Errorf("%s: event %d of %.300q is %q, not %q", promise, i, text, got, expected)
		}
	}
}
