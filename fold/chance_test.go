package fold

import (
	"math/rand/v2"
	"reflect"
	"testing"

	"debugger/api"
	"debugger/checker"
	"debugger/interp"
	"debugger/ir"
	"debugger/lower"
	"debugger/modules"
	"debugger/notation"
	"debugger/parser"
	"debugger/programs"
)

// foldedModule returns a module of folded functions, each of which is checked against the second implementation.
func foldedModule(t *testing.T, m api.Module) api.Module {
	t.Helper()
	var result api.Module
	for _, c := range m.Funcs {
		got := folded(t, "P8.1", c)
		if want := reckon(c); key(got) != key(want) {
			t.Fatalf("P8.2:\n%s\nbecomes\n%snot\n%s", notation.Print(c), notation.Print(got), notation.Print(want))
		}
		// Everything that can be known is known at once.
		if again := Fold(got); key(again) != key(got) {
			t.Fatalf("P8.2:\n%s\nis folded again, to\n%s", notation.Print(got), notation.Print(again))
		}
		result.Funcs = append(result.Funcs, got)
	}
	if e := ir.Check(result); e != api.OK {
		t.Fatalf("P8.1: the folded module is refused: %d", e)
	}
	return result
}

// words are arguments of runs.
var words = []int{least, -7, -1, 0, 0, 1, 1, 2, 3, 4, 8, greatest}

func arguments(r *rand.Rand, count int) []int {
	list := []int{}
	for range count {
		list = append(list, words[r.IntN(len(words))])
	}
	return list
}

// whole returns all events of a run, and its outcome.
func whole(s api.Source, m api.Module, f int, args []int, steps int) ([]api.Event, api.Outcome) {
	all := []api.Event{}
	for {
		events, o := ir.Trace(s, m, f, args, steps, len(all), 100)
		all = append(all, events...)
		if len(events) < 100 {
			return all, o
		}
	}
}

// expectSameRuns checks that a function of two modules runs in the same way, and returns the outcome.
func expectSameRuns(t *testing.T, s api.Source, m, other api.Module, f int, args []int, steps int) api.Outcome {
	t.Helper()
	events, o := whole(s, m, f, args, steps)
	got, end := whole(s, other, f, args, steps)
	if key(o) != key(end) || len(events) != len(got) {
		t.Fatalf("S1, S2: function %d with %v in %d steps: %+v and %d events, not %+v and %d", f, args, steps, end, len(got), o, len(events))
	}
	if key(events) != key(got) {
		t.Fatalf("S3: function %d with %v in %d steps: the events\n%+v\nnot\n%+v", f, args, steps, got, events)
	}
	return o
}

func TestModulesByChance(t *testing.T) {
	r := rand.New(rand.NewPCG(8, 1))
	changed, ended := 0, 0
	for range 2000 {
		s, m := modules.Module(r.IntN)
		other := foldedModule(t, m)
		if key(other) != key(m) {
			changed++
		}
		for range 2 {
			f := r.IntN(len(m.Funcs))
			if o := expectSameRuns(t, s, m, other, f, arguments(r, m.Funcs[f].Params), r.IntN(80)); o.Err == api.OK {
				ended++
			}
		}
	}
	t.Logf("%d of 2000 modules are changed, %d runs ended", changed, ended)
	if changed < 1500 || ended < 1000 {
		t.Errorf("only %d modules are changed, and %d runs ended", changed, ended)
	}
}

// lowered returns the source of a program by chance and its module; nil: it has none.
func lowered(t *testing.T, r *rand.Rand) (api.Source, *api.Module) {
	t.Helper()
	text, _ := programs.Text(r.IntN)
	if len(text) > api.MaxText {
		return api.Source{}, nil
	}
	p, _, _ := parser.Parse(text)
	s, line, e := checker.Check(p)
	if e != api.OK {
		t.Fatalf("%q is refused: %d in line %d", text, e, line)
	}
	m, e := lower.Lower(s)
	if e != api.OK {
		return api.Source{}, nil
	}
	return s, &m
}

// The events of a folded program are those of the interpreter, with all words.
func TestProgramsByChance(t *testing.T) {
	r := rand.New(rand.NewPCG(8, 2))
	changed := 0
	for range 400 {
		s, m := lowered(t, r)
		if m == nil {
			continue
		}
		other := foldedModule(t, *m)
		if key(other) != key(*m) {
			changed++
		}
		for f, c := range m.Funcs {
			args := arguments(r, c.Params)
			expectSameRuns(t, s, *m, other, f, args, 100)
			events, o := ir.Trace(s, other, f, args, 100, 0, 100)
			wants, want := interp.Trace(s, f, args, 100, 0, 100)
			if key(o) != key(want) || key(events) != key(wants) {
				t.Fatalf("S1 to S3: function %d of %s\nwith %v: %+v %+v\nnot %+v %+v", f, parser.Print(s.Program), args, o, events, want, wants)
			}
		}
	}
	if changed < 200 {
		t.Errorf("only %d programs are changed", changed)
	}
}

// Codes in which anything is changed come back as they are, or are folded if they are sound still.
func TestChangedCodes(t *testing.T) {
	r := rand.New(rand.NewPCG(8, 3))
	sound, refused := 0, 0
	for range 4000 {
		_, m := modules.Module(r.IntN)
		c := roomy(m.Funcs[0])
		for range 1 + r.IntN(2) {
			places := changeable(reflect.ValueOf(&c).Elem())
			change(r, places[r.IntN(len(places))])
		}
		before := everything(reflect.ValueOf(c))
		got, want := Fold(c), c
		if ir.CheckCode(c) == api.OK {
			sound++
			want = reckon(c)
		} else {
			refused++
		}
		if key(got) != key(want) {
			t.Fatalf("P8.1: %+v\nbecomes\n%+v\nnot\n%+v", c, got, want)
		}
		if everything(reflect.ValueOf(c)) != before {
			t.Fatalf("P2: Fold changes its argument %s", before)
		}
	}
	t.Logf("%d codes are sound, %d are refused", sound, refused)
	if sound < 500 || refused < 1000 {
		t.Errorf("%d codes are sound, %d are refused", sound, refused)
	}
}

// changeable returns all numbers and slices of a value.
func changeable(v reflect.Value) []reflect.Value {
	l := []reflect.Value{}
	if v.Kind() == reflect.Int || v.Kind() == reflect.Slice {
		l = append(l, v)
	}
	for _, x := range parts(v) {
		l = append(l, changeable(x)...)
	}
	return l
}

func change(r *rand.Rand, v reflect.Value) {
	numbers := []int{least, -1 << 40, -2, -1, 0, 1, 2, 3, 4, 5, 8, 9, 21, 24, 1 << 20, 1 << 40, greatest}
	switch {
	case v.Kind() == reflect.Slice:
		v.SetLen(r.IntN(v.Cap() + 1))
	case r.IntN(2) > 0:
		v.SetInt(v.Int() + int64(r.IntN(3)) - 1)
	default:
		v.SetInt(int64(numbers[r.IntN(len(numbers))]))
	}
}
