package tailcall

import (
	"math/rand/v2"
	"testing"

	"debugger/api"
	"debugger/checker"
	"debugger/dead"
	"debugger/fold"
	"debugger/inline"
	"debugger/interp"
	"debugger/lower"
	"debugger/merge"
	"debugger/parser"
	"debugger/passes"
	"debugger/unroll"
)

// needed returns the source of a program, its module without what is not needed, and this with tail calls. (Before, the values of the variables are arguments of the edges behind calls.)
func needed(t *testing.T, text string) (api.Source, api.Module, api.Module) {
	t.Helper()
	p, _, e := parser.Parse(text)
	if e != api.OK {
		t.Fatalf("%s: the error is %d", text, e)
	}
	s, _, e := checker.Check(p)
	if e != api.OK {
		t.Fatalf("%s: the error is %d", text, e)
	}
	m, e := lower.Lower(s)
	if e != api.OK {
		t.Fatalf("%s: the error is %d", text, e)
	}
	m = passes.Each(dead.Dead)(m)
	return s, m, tailModule(t, m)
}

// A function that ends by calling itself, or by calling another one that does, is not limited in depth.
func TestDepth(t *testing.T) {
	self := "(1) v1 = 1; v2 = v0 - v1; branch v0 1(v2) 2(v0)\n(1) call 0(v0) 2()\n(1) return v0"
	there := "(1) v1 = 1; v2 = v0 - v1; branch v0 1(v2) 2(v0)\n(1) call 1(v0) 2()\n(1) return v0"
	back := "(1) v1 = 1; v2 = v0 - v1; branch v0 1(v2) 3()\n(1) call 0(v0) 2()\n(1) at 3; return v0\n(0) v0 = 7; throw v0"
	for _, texts := range [][]string{{self}, {there, back}} {
		m := passes.ParseModule(t, texts...)
		other := tailModule(t, m)
		for _, n := range []int{0, api.MaxCalls - 1, api.MaxCalls, 100, 1000} {
			_, o := passes.Whole(api.Source{}, m, 0, []int{n}, 10)
			_, end := passes.Whole(api.Source{}, other, 0, []int{n}, 10)
			if (o.Err == api.ErrLimit) != (n >= api.MaxCalls) || end.Err != api.OK || o.Err == api.OK && !passes.EqualOutcomes(o, end) {
				t.Errorf("P14.1: %d activations end with %+v, and with %+v as tail calls", n+1, o, end)
			}
		}
	}
}

// What a function that was called by a tail call throws goes past its caller, which had no handler, to the next one.
func TestThrown(t *testing.T) {
	m := passes.ParseModule(t,
		"(1) call 1(v0) 1(v0) 2(v0)\n(2) print v0; print v1; return v1\n(2) print v1; throw v0",
		"(1) v1 = copy v0; call 2(v1) 1()\n(1) at 3; return v0",
		"(1) v1 = 5; branch v0 1(v1) 2(v1)\n(1) throw v0\n(1) return v0")
	other := tailModule(t, m)
	if n := added(m, other); n != 1 {
		t.Fatalf("P14.1: %d tail calls", n)
	}
	for n, want := range []api.Outcome{{Value: 0, Output: []int{5, 0}}, {Thrown: true, Value: 5, Output: []int{1}}} {
		o := passes.ExpectSame(t, api.Source{}, m, other, 0, []int{n}, 10)
		if !passes.EqualOutcomes(o, want) {
			t.Errorf("P14.1: with %d the outcome is %+v", n, o)
		}
	}
}

// The frame of the function that calls is gone: f, g and h are shown as h and f.
func TestFrames(t *testing.T) {
	s, m, other := needed(t, "func f(a) { var b: int; b = g(a + 1); return b; } func g(a) { a = a * 2; return h(a); } func h(a) { print a; return a + 5; }")
	if n := added(m, other); n != 1 || count(other, api.TermCall) != 1 {
		t.Fatalf("P14.1: %d tail calls", n)
	}
	events, o := passes.Whole(s, other, 0, []int{3}, 100)
	wants, want := interp.Trace(s, 0, []int{3}, 100, 0, 100)
	if !passes.EqualOutcomes(o, want) || o.Value != 13 || !passes.EqualEvents(events, left(wants, gone(t, m, other))) {
		t.Errorf("S1, S6: the events are %+v, the outcome is %+v", events, o)
	}
	for _, e := range events {
		if e.Frames[0].Func == 2 && (len(e.Frames) != 2 || e.Frames[1].Func != 0) {
			t.Errorf("S6: the frames are %+v", e.Frames)
		}
	}
}

// A return of a call is a tail call if it does not lie in a try; a call that something follows is none.
func TestPrograms(t *testing.T) {
	for text, want := range map[string]int{
		"func f(n) { return g(n); } func g(n) { return n; }":                                                      1,
		"func f(n) { var x: int; x = g(n); return x; } func g(n) { return n; }":                                   0,
		"func f(n) { g(n); } func g(n) { return n; }":                                                             0,
		"func f(n) { try { return g(n); } catch e { return 3; } } func g(n) { return n; }":                        0,
		"func f(n) { try { throw n; } catch e { return g(e); } } func g(n) { return n; }":                         1,
		"func f(n) { try { try { throw n; } catch e { return g(e); } } catch e { } } func g(n) { return n; }":     0,
		"func f(n) { if n { return f(n - 1); } else { return g(n, n); } } func g(n, m) { return f(m); }":          3,
		"func f(n) { while n { n = n - 1; if n < 5 { return g(n); } } return g(7); } func g(n) { print n; }":      2,
		"func f(n) { if n < 1 { return n; } return f(n - 1); }":                                                   1,
		"func f(n) { try { n = g(n); } catch e { } return g(n); } func g(n) { if n { throw n; } return f(n+1); }": 2,
	} {
		s, m, other := needed(t, text)
		if n := added(m, other); n != want {
			t.Errorf("P14.1: %d tail calls in %s", n, text)
		}
		x := runs{}
		for n := range 9 {
			x.expectRun(t, s, m, other, 0, []int{n}, 100)
		}
	}
}

// A program that calls itself a hundred times has one activation at each event.
func TestDeepProgram(t *testing.T) {
	s, m, other := needed(t, "func f(n, sum) { if n { return f(n - 1, sum + n); } return sum; }")
	if _, o := passes.Whole(s, m, 0, []int{100, 0}, 1000); o.Err != api.ErrLimit {
		t.Errorf("P14.1: without tail calls the outcome is %+v", o)
	}
	events, o := passes.Whole(s, other, 0, []int{100, 0}, 1000)
	if o.Err != api.OK || o.Value != 5050 || len(events) != 202 || frames(events) != len(events) {
		t.Errorf("P14.1: %d events with %d frames, the outcome is %+v", len(events), frames(events), o)
	}
}

// The outcomes stay wherever no limit of depth is met, and the events but for the frames that are gone.
func TestRunsByChance(t *testing.T) {
	r := rand.New(rand.NewPCG(14, 3))
	x := runs{}
	for range 3000 {
		s, m := endingModule(r)
		other := tailModule(t, m)
		for f := range m.Funcs {
			x.expectRun(t, s, m, other, f, passes.Arguments(r.IntN, m.Funcs[f].Params), r.IntN(60))
		}
	}
	t.Logf("%+v", x)
	if x.ended < 2000 || x.fuel < 1000 || x.deep < 200 || x.further < 100 || x.frames-x.frame < 1000 || x.word < 10000 || x.words-x.word < 1000 {
		t.Errorf("only %+v", x)
	}
}

// The events of a program with tail calls are those of the interpreter, but for the frames that are gone; so they are if all earlier passes have gone through it.
func TestProgramsByChance(t *testing.T) {
	r := rand.New(rand.NewPCG(14, 4))
	x, y, calls, few, tails := runs{}, runs{}, 0, 0, 0
	for range 500 {
		s, m := passes.Program(t, r.IntN)
		earlier := api.Module{}
		for _, c := range inline.Inline(m).Funcs {
			c = dead.Dead(fold.Fold(merge.Merge(fold.Fold(c))))
			earlier.Funcs = append(earlier.Funcs, dead.Dead(unroll.Unroll(c)))
		}
		other, both := tailModule(t, m), tailModule(t, earlier)
		calls, few, tails = calls+count(earlier, api.TermCall), few+added(m, other), tails+added(earlier, both)
		for f, c := range m.Funcs {
			args := passes.Arguments(r.IntN, c.Params)
			x.expectRun(t, s, m, other, f, args, 300)
			y.expectRun(t, s, earlier, both, f, args, 300)
			expectInterpreted(t, s, m, other, f, args, passes.EqualEvents)
			expectInterpreted(t, s, earlier, both, f, args, passes.Within)
		}
	}
	t.Logf("%d and then %d of %d calls; %+v, and behind the earlier passes %+v", few, tails, calls, x, y)
	if few < 20 || tails < 80 || tails == calls || min(x.ended, y.ended) < 500 || y.further < 20 || x.frames-x.frame < 100 || y.frames-y.frame < 3000 || min(x.word, y.word) < 10000 {
		t.Errorf("only %d and then %d of %d calls; %+v, and behind the earlier passes %+v", few, tails, calls, x, y)
	}
}

// expectInterpreted checks that a function of a program's module with tail calls has events like those of the interpreter, but for the frames that are gone, and its outcome if that has no limit of depth.
func expectInterpreted(t *testing.T, s api.Source, m, other api.Module, f int, args []int, like func(got, want []api.Event) bool) {
	t.Helper()
	wants, want := interp.Trace(s, f, args, 300, 0, 100)
	events, o := passes.Whole(s, other, f, args, 300)
	if want.Err != api.ErrLimit && !passes.EqualOutcomes(o, want) {
		t.Fatalf("S1: the outcome is %+v, not %+v:\n%s", o, want, parser.Print(s.Program))
	}
	if len(events) < len(wants) || !like(events[:len(wants)], left(wants, gone(t, m, other))) {
		t.Fatalf("S2, S3, S6: other events than those of\n%s", parser.Print(s.Program))
	}
}
