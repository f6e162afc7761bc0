package tailcall

import (
	"testing"

	"debugger/api"
	"debugger/passes"
)

// place is a statement of a function.
type place struct{ function, statement int }

// position returns the statement at which the terminator of a block of a function is executed.
func position(t *testing.T, f int, b api.Block) place {
	t.Helper()
	for i := len(b.Ops) - 1; i >= 0; i-- {
		if o := b.Ops[i]; o.Kind == api.OpMark || o.Kind == api.OpAt {
			if o.Ctx != 0 {
				t.Fatalf("the call of %+v is not one of the function itself", b)
			}
			return place{f, o.N}
		}
	}
	t.Fatalf("the call of %+v has no position", b)
	return place{}
}

// gone returns the places of the calls of a module that are tail calls in another one.
func gone(t *testing.T, m, other api.Module) map[place]bool {
	t.Helper()
	list := map[place]bool{}
	calls := func(kind int) {
		for f, c := range m.Funcs {
			for i, b := range c.Blocks {
				if b.Term.Kind != api.TermCall || other.Funcs[f].Blocks[i].Term.Kind != kind {
					continue
				}
				p := position(t, f, b)
				if kind == api.TermTail {
					list[p] = true
				} else if list[p] {
					t.Fatalf("%+v has calls and tail calls", p)
				}
			}
		}
	}
	calls(api.TermTail)
	calls(api.TermCall)
	return list
}

// left returns events without the frames that wait for a call at one of some places. The innermost frame of an event does not wait.
func left(events []api.Event, places map[place]bool) []api.Event {
	list := []api.Event{}
	for _, e := range events {
		frames := []api.Frame{}
		for i, f := range e.Frames {
			if i == 0 || !places[place{f.Func, f.Stmt}] {
				frames = append(frames, f)
			}
		}
		list = append(list, api.Event{Frames: frames})
	}
	return list
}

// frames returns how many frames some events have.
func frames(events []api.Event) int {
	n := 0
	for _, e := range events {
		n += len(e.Frames)
	}
	return n
}

// runs counts what becomes of runs: how they end, how many that had too many activations end otherwise with tail calls, and how many frames and known words there are, of how many.
type runs struct{ ended, fuel, deep, further, frames, frame, words, word int }

// expectRun checks that a function of a module and of its other module with tail calls has the same outcome, and the same events but for the frames that are gone. If the first one has too many activations, or enters too many blocks, both only have to begin in the same way.
func (x *runs) expectRun(t *testing.T, s api.Source, m, other api.Module, f int, args []int, steps int) {
	t.Helper()
	places := gone(t, m, other)
	like := func(got, want []api.Event) bool { return passes.EqualEvents(got, left(want, places)) }
	expect := passes.ExpectFewer
	if passes.Starved(s, m, f, args, steps) {
		expect = passes.ExpectFurther
	}
	o := expect(t, s, m, other, f, args, steps, like)
	events, _ := passes.Whole(s, m, f, args, steps)
	got, end := passes.Whole(s, other, f, args, steps)
	switch o.Err {
	case api.OK:
		x.ended++
	case api.ErrFuel:
		x.fuel++
	case api.ErrLimit:
		x.deep++
		if end.Err != api.ErrLimit {
			x.further++
		}
	}
	x.frames, x.frame = x.frames+frames(events), x.frame+frames(got)
	x.words, x.word = x.words+passes.Words(events), x.word+passes.Words(got)
}
