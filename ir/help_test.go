package ir

import (
	"fmt"
	"slices"
	"strings"
	"testing"

	"debugger/api"
	"debugger/notation"
)

const (
	least    = -1 << 63
	greatest = 1<<63 - 1
)

// key returns a text that two values have in common only if they are the same; nil and empty slices are.
func key(v any) string { return fmt.Sprintf("%+v", v) }

// code returns the code of a text of package notation.
func code(t *testing.T, text string) api.Code {
	t.Helper()
	c, ok := notation.Parse(text)
	if !ok {
		t.Fatalf("%.400q is no code", text)
	}
	return c
}

// module returns the module of such texts, which give each function its number.
func module(t *testing.T, texts ...string) api.Module {
	t.Helper()
	m := api.Module{}
	for f, text := range texts {
		m.Funcs = append(m.Funcs, code(t, fmt.Sprintf("func %d\n%s", f, text)))
	}
	return m
}

// scalars returns a source whose functions have the same scalars, all in scope from the statement 0 to 9999.
func scalars(funcs, vars int) api.Source {
	s := api.Source{}
	for range funcs {
		list := []api.VarInfo{}
		for range vars {
			list = append(list, api.VarInfo{Kind: api.VarScalar, Words: 1, To: 9999})
		}
		s.Vars = append(s.Vars, list)
	}
	return s
}

// whole returns all events of a run, and its outcome.
func whole(s api.Source, m api.Module, f int, args []int, steps int) ([]api.Event, api.Outcome) {
	all := []api.Event{}
	for {
		events, o := Trace(s, m, f, args, steps, len(all), 100)
		all = append(all, events...)
		if len(events) < 100 {
			return all, o
		}
	}
}

// describe returns an outcome as a text: "value 3", "thrown 3" or "error 3", with " output 1 2" behind it if there is some.
func describe(o api.Outcome) string {
	text := fmt.Sprintf("value %d", o.Value)
	if o.Thrown {
		text = fmt.Sprintf("thrown %d", o.Value)
	}
	if o.Err != api.OK {
		text = fmt.Sprintf("error %d", o.Err)
		if o.Thrown || o.Value != 0 {
			text += " and a value"
		}
	}
	if len(o.Output) > 0 {
		text += " output " + strings.Trim(fmt.Sprint(o.Output), "[]")
	}
	return text
}

// expectOutcome checks the outcome of a run of the first function.
func expectOutcome(t *testing.T, promise string, m api.Module, args []int, want string) {
	t.Helper()
	_, o := Trace(api.Source{}, m, 0, args, api.MaxSteps, 0, 0)
	if got := describe(o); got != want {
		t.Errorf("%s: %.400s with %v has %q, not %q", promise, text(m), args, got, want)
	}
}

// text returns a module as a text.
func text(m api.Module) string {
	list := []string{}
	for _, c := range m.Funcs {
		list = append(list, notation.Print(c))
	}
	return strings.Join(list, "--\n")
}

// frames returns an event as a text: "0@7 3=1,?" is the function 0 at the statement 7 with variable 3, whose second word is not known; the innermost frame comes first.
func frames(e api.Event) string {
	list := []string{}
	for _, f := range e.Frames {
		text := fmt.Sprintf("%d@%d", f.Func, f.Stmt)
		for _, v := range f.Vars {
			text += fmt.Sprintf(" %d=%s", v.Var, shown(v))
		}
		list = append(list, text)
	}
	return strings.Join(list, " < ")
}

func shown(v api.Shown) string {
	if len(v.Known) != len(v.Words) {
		return "wrong number of words"
	}
	list := []string{}
	for i, w := range v.Words {
		switch {
		case v.Known[i]:
			list = append(list, fmt.Sprint(w))
		case w == 0:
			list = append(list, "?")
		default:
			list = append(list, fmt.Sprintf("? with %d", w))
		}
	}
	return strings.Join(list, ",")
}

// expectFrames checks all events of a run of the first function.
func expectFrames(t *testing.T, s api.Source, m api.Module, args []int, want ...string) {
	t.Helper()
	events, _ := whole(s, m, 0, args, api.MaxSteps)
	for i := range max(len(events), len(want)) {
		got, expected := "none", "none"
		if i < len(events) {
			got = frames(events[i])
		}
		if i < len(want) {
			expected = want[i]
		}
		if got != expected {
			t.Errorf("P6.4: event %d of %.400s with %v is %q, not %q", i, text(m), args, got, expected)
		}
	}
}

// contains tells whether a list that is written with commas has a name.
func contains(list, name string) bool { return slices.Contains(strings.Split(list, ", "), name) }
