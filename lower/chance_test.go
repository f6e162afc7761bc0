package lower

import (
	"fmt"
	"math/rand/v2"
	"testing"

	"debugger/api"
	"debugger/interp"
	"debugger/ir"
	"debugger/parser"
	"debugger/programs"
)

// manyPrograms returns the sources of programs by chance, always the same ones, that have a code.
func manyPrograms(t *testing.T, count int) []api.Source {
	t.Helper()
	r := rand.New(rand.NewPCG(7, 1))
	list := []api.Source{}
	for len(list) < count {
		program, _ := programs.Text(r.IntN)
		if len(program) > api.MaxText {
			continue
		}
		s := source(t, program)
		if _, e := Lower(s); e == api.OK {
			list = append(list, s)
		}
	}
	return list
}

// words are arguments of runs.
var words = []int{least, -7, -1, 0, 0, 1, 1, 2, 3, 4, 8, greatest}

// whole returns all events of a run, and its outcome.
func whole(trace func(from int) ([]api.Event, api.Outcome)) ([]api.Event, api.Outcome) {
	all := []api.Event{}
	for {
		events, o := trace(len(all))
		all = append(all, events...)
		if len(events) < 100 {
			return all, o
		}
	}
}

// known tells whether all words of an event are known.
func known(e api.Event) bool {
	for _, f := range e.Frames {
		for _, v := range f.Vars {
			for _, k := range v.Known {
				if !k {
					return false
				}
			}
		}
	}
	return true
}

// expectRun checks that a run of a function's code has the outcome and the events of the interpreter, with all words known, and returns the outcome.
func expectRun(t *testing.T, s api.Source, m api.Module, f int, args []int, steps int) api.Outcome {
	t.Helper()
	events, o := whole(func(from int) ([]api.Event, api.Outcome) { return ir.Trace(s, m, f, args, steps, from, 100) })
	wants, want := whole(func(from int) ([]api.Event, api.Outcome) { return interp.Trace(s, f, args, steps, from, 100) })
	if key(o) != key(want) {
		t.Fatalf("S1: f%d of %s\nwith %v in %d steps has %+v, not %+v", f, parser.Print(s.Program), args, steps, o, want)
	}
	if key(events) != key(wants) {
		t.Fatalf("S2, S3: f%d of %s\nwith %v in %d steps has the events\n%+v\nnot\n%+v", f, parser.Print(s.Program), args, steps, events, wants)
	}
	for i, e := range events {
		if !known(e) {
			t.Fatalf("S3: event %d of f%d of %s\nwith %v has unknown words", i, f, parser.Print(s.Program), args)
		}
	}
	return o
}

func TestProgramsByChance(t *testing.T) {
	r := rand.New(rand.NewPCG(7, 2))
	outcomes, refused := map[string]int{}, 0
	for range 2500 {
		program, params := programs.Text(r.IntN)
		if len(program) > api.MaxText {
			continue
		}
		s := source(t, program)
		m, e := Lower(s)
		if want, end := reckon(s); e != end || key(m) != key(want) {
			t.Fatalf("P7: %s\nhas the error %d, not %d, and the code\n%s\nnot\n%s", parser.Print(s.Program), e, end, text(m), text(want))
		}
		if e != api.OK {
			refused++
			continue
		}
		if e := ir.Check(m); e != api.OK {
			t.Fatalf("P7: ir.Check of %s is %d", text(m), e)
		}
		for f, n := range params {
			args := []int{}
			for range n {
				args = append(args, words[r.IntN(len(words))])
			}
			o := expectRun(t, s, m, f, args, []int{15, 100, 300}[r.IntN(3)])
			outcomes[fmt.Sprintf("error %d thrown %v", o.Err, o.Thrown)]++
		}
	}
	t.Logf("%d programs are refused; runs: %v", refused, outcomes)
	for _, kind := range []string{"error 0 thrown false", "error 0 thrown true", "error 13 thrown false", "error 5 thrown false"} {
		if outcomes[kind] < 50 {
			t.Errorf("only %d runs have %s", outcomes[kind], kind)
		}
	}
}
