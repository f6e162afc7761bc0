package passes

import (
	"math/rand/v2"
	"testing"

	"debugger/api"
	"debugger/checker"
	"debugger/ir"
	"debugger/parser"
)

// counting prints, and has an event for each number from its argument down to 1.
const counting = "(1) bind 0 to v0; mark 0; print v0; v1 = 1; v2 = v0 - v1; branch v2 1(v2) 2(v2)\n(1) bind 0 to v0; mark 0; print v0; v1 = 1; v2 = v0 - v1; branch v2 1(v2) 2(v2)\n(1) return v0"

// one returns a module of one function with one variable, and its source.
func one(t *testing.T, text string) (api.Source, api.Module) {
	t.Helper()
	s := api.Source{Vars: [][]api.VarInfo{{{Kind: api.VarScalar, Words: 1, To: 99}}}}
	return s, api.Module{Funcs: []api.Code{Parse(t, text)}}
}

func TestWhole(t *testing.T) {
	s, m := one(t, counting)
	for _, n := range []int{1, 99, 100, 101, 250} {
		events, o := Whole(s, m, 0, []int{n}, 1000)
		if len(events) != n || len(o.Output) != n || o.Err != api.OK || events[n-1].Frames[0].Vars[0].Words[0] != 1 {
			t.Errorf("a run down from %d has %d events and the outcome %+v", n, len(events), o)
		}
	}
}

func TestExpectSame(t *testing.T) {
	s, m := one(t, counting)
	for about, c := range map[string]struct {
		text string
		want []string
	}{
		"the same":             {counting, nil},
		"another value":        {"(1) bind 0 to v0; mark 0; print v0; return v0", []string{"S1, S2: "}},
		"another output":       {"(1) bind 0 to v0; mark 0; v1 = 0; return v1", []string{"S1, S2: "}},
		"thrown":               {"(1) bind 0 to v0; mark 0; print v0; v1 = 0; throw v1", []string{"S1, S2: "}},
		"one event more":       {"(1) bind 0 to v0; mark 0; mark 0; print v0; v1 = 0; return v1", []string{"S1, S2: "}},
		"another statement":    {"(1) bind 0 to v0; mark 1; print v0; v1 = 0; return v1", []string{"S3: "}},
		"an unavailable word":  {"(1) bind 0 to nowhere; mark 0; print v0; v1 = 0; return v1", []string{"S3: "}},
		"another word":         {"(1) bind 0 to v0 + 1; mark 0; print v0; v1 = 0; return v1", []string{"S3: "}},
		"the same in one step": {"(1) bind 0 to constant + 1; mark 0; print v0; v1 = 0; return v1", nil},
	} {
		_, other := one(t, c.text)
		expectTold(t, about, func(t Tester) { ExpectSame(t, s, m, other, 0, []int{1}, 10) }, c.want...)
	}
}

func TestExpectLike(t *testing.T) {
	s, m := one(t, counting)
	for about, c := range map[string]struct {
		text string
		like func(got, want []api.Event) bool
		want []string
	}{
		"the same":                 {counting, Within, nil},
		"another value":            {"(1) bind 0 to v0; mark 0; print v0; return v0", Within, []string{"S1, S2: "}},
		"an unavailable word":      {"(1) mark 0; print v0; v1 = 0; return v1", Within, nil},
		"another word":             {"(1) bind 0 to v0 + 1; mark 0; print v0; v1 = 0; return v1", Within, []string{"S3: "}},
		"no two words that differ": {"(1) mark 0; print v0; v1 = 0; return v1", Agree, nil},
		"two words that differ":    {"(1) bind 0 to constant; mark 0; print v0; v1 = 0; return v1", Agree, []string{"S3: "}},
	} {
		_, other := one(t, c.text)
		expectTold(t, about, func(t Tester) {
			if o := ExpectLike(t, s, m, other, 0, []int{1}, 10, c.like); len(o.Output) != 1 {
				t.Error("another outcome")
			}
		}, c.want...)
	}
	// The second module is the one that may know less.
	_, other := one(t, "(1) mark 0; print v0; v1 = 0; return v1")
	expectTold(t, "less is known", func(t Tester) { ExpectLike(t, s, m, other, 0, []int{1}, 10, Within) })
	expectTold(t, "more is known", func(t Tester) { ExpectLike(t, s, other, m, 0, []int{1}, 10, Within) }, "S3: ")
	expectTold(t, "more is known, and may be", func(t Tester) { ExpectLike(t, s, other, m, 0, []int{1}, 10, Agree) })
}

// endless prints its argument and calls itself with one that is greater by 1.
const endless = "(1) bind 0 to v0; mark 0; print v0; v1 = 1; v2 = v0 + v1; call 0(v2) 1()\n(1) return v0"

func TestExpectFewer(t *testing.T) {
	s, m := one(t, endless)
	for about, c := range map[string]struct {
		text string
		want []string
	}{
		"the same":           {endless, nil},
		"fewer activations":  {"(1) bind 0 to v0; mark 0; print v0; v1 = 1; v2 = v0 + v1; tail 0(v2)", nil},
		"too few events":     {"(1) bind 0 to v0; mark 0; print v0; return v0", []string{"S1, S2: "}},
		"too little printed": {"(1) bind 0 to v0; mark 0; v1 = 1; v2 = v0 + v1; tail 0(v2)", []string{"S1, S2: "}},
		"something else":     {"(1) bind 0 to v0; mark 0; print v0; v1 = 2; v2 = v0 + v1; tail 0(v2)", []string{"S1, S2: "}},
		"another word":       {"(1) bind 0 to v0 + 1; mark 0; print v0; v1 = 1; v2 = v0 + v1; call 0(v2) 1()\n(1) return v0", []string{"S3: "}},
	} {
		_, other := one(t, c.text)
		like := func(got, want []api.Event) bool {
			for i := range got {
				if !equalShown(got[i].Frames[0].Vars[0], want[i].Frames[0].Vars[0]) {
					return false
				}
			}
			return len(got) == len(want)
		}
		expectTold(t, about, func(t Tester) {
			if o := ExpectFewer(t, s, m, other, 0, []int{1}, 50, like); o.Err != api.ErrLimit {
				t.Error("another outcome")
			}
		}, c.want...)
	}
	s, m = one(t, counting)
	_, other := one(t, "(1) bind 0 to v0; mark 0; print v0; return v0")
	expectTold(t, "not too many activations", func(t Tester) { ExpectFewer(t, s, m, m, 0, []int{3}, 10, EqualEvents) })
	expectTold(t, "another value", func(t Tester) { ExpectFewer(t, s, m, other, 0, []int{1}, 10, EqualEvents) }, "S1, S2: ")
}

// circling prints its argument and then enters blocks for ever.
const circling = "(1) bind 0 to v0; mark 0; print v0; jump 1()\n(0) jump 1()"

func TestStarved(t *testing.T) {
	s, m := one(t, circling)
	_, count := one(t, counting)
	for _, c := range []struct {
		module      api.Module
		steps, from int
		want        bool
	}{{m, 0, 1, false}, {m, 1, 1, true}, {m, 9, 1, true}, {count, 3, 4, false}, {count, 4, 4, false}} {
		if got := Starved(s, c.module, 0, []int{c.from}, c.steps); got != c.want {
			t.Errorf("a run from %d with %d steps enters too many blocks: %v", c.from, c.steps, got)
		}
	}
}

func TestExpectFurther(t *testing.T) {
	s, m := one(t, circling)
	for about, c := range map[string]struct {
		text string
		want []string
	}{
		"the same":           {circling, nil},
		"fewer blocks":       {"(1) bind 0 to v0; mark 0; print v0; print v0; mark 1; return v0", nil},
		"too few events":     {"(1) print v0; return v0", []string{"S1, S2: "}},
		"too little printed": {"(1) bind 0 to v0; mark 0; return v0", []string{"S1, S2: "}},
		"something else":     {"(1) bind 0 to v0; mark 0; v1 = 8; print v1; return v0", []string{"S1, S2: "}},
		"another word":       {"(1) bind 0 to v0 + 1; mark 0; print v0; return v0", []string{"S3: "}},
	} {
		_, other := one(t, c.text)
		expectTold(t, about, func(t Tester) {
			if o := ExpectFurther(t, s, m, other, 0, []int{1}, 50, EqualEvents); o.Err != api.ErrFuel {
				t.Error("another outcome")
			}
		}, c.want...)
	}
	s, m = one(t, counting)
	_, other := one(t, "(1) bind 0 to v0; mark 0; print v0; return v0")
	for _, steps := range []int{2, 10} {
		expectTold(t, "not too many blocks", func(t Tester) { ExpectFurther(t, s, m, m, 0, []int{3}, steps, EqualEvents) })
		expectTold(t, "another value", func(t Tester) { ExpectFurther(t, s, m, other, 0, []int{3}, steps, EqualEvents) }, "S1, S2: ")
	}
}

func TestExpectKnown(t *testing.T) {
	v := func(known bool, word int) api.Shown {
		return api.Shown{Known: []bool{true, known}, Words: []int{7, word}}
	}
	frame := func(f, stmt int, vars ...api.Shown) api.Frame { return api.Frame{Func: f, Stmt: stmt, Vars: vars} }
	for about, c := range map[string]struct {
		want, got []api.Frame
		words     int
		told      []string
	}{
		"the same":              {[]api.Frame{frame(1, 2, v(true, 5), v(true, 6))}, []api.Frame{frame(1, 2, v(true, 5), v(true, 6))}, 4, nil},
		"more is known":         {[]api.Frame{frame(1, 2, v(false, 0))}, []api.Frame{frame(1, 2, v(true, 5))}, 1, nil},
		"less is known":         {[]api.Frame{frame(1, 2, v(true, 0))}, []api.Frame{frame(1, 2, v(false, 0))}, 0, []string{"S3: "}},
		"another word":          {[]api.Frame{frame(1, 2, v(true, 5))}, []api.Frame{frame(1, 2, v(true, 6))}, 0, []string{"S3: "}},
		"another statement":     {[]api.Frame{frame(1, 2)}, []api.Frame{frame(1, 3)}, 0, []string{"S2: "}},
		"another function":      {[]api.Frame{frame(1, 2)}, []api.Frame{frame(2, 2)}, 0, []string{"S2: "}},
		"another variable":      {[]api.Frame{frame(1, 2)}, []api.Frame{frame(1, 2, v(true, 5))}, 0, []string{"S2: "}},
		"a frame less":          {[]api.Frame{frame(1, 2), frame(0, 1)}, []api.Frame{frame(1, 2)}, 0, []string{"S2: "}},
		"behind nothing known":  {[]api.Frame{frame(1, 2, v(true, 5)), frame(0, -1), frame(3, 1)}, []api.Frame{frame(1, 2, v(true, 5)), frame(0, 4)}, 2, nil},
		"a position gets known": {[]api.Frame{frame(1, -1)}, []api.Frame{frame(1, 2, v(true, 5))}, 0, nil},
		"a position is not now": {[]api.Frame{frame(1, 2)}, []api.Frame{frame(1, -1)}, 0, []string{"S2: "}},
	} {
		expectTold(t, about, func(t Tester) {
			if words := ExpectKnown(t, api.Event{Frames: c.want}, api.Event{Frames: c.got}); words != c.words {
				t.Error(words, " words")
			}
		}, c.told...)
	}
}

func TestProgram(t *testing.T) {
	r := rand.New(rand.NewPCG(9, 2))
	for range 50 {
		s, m := Program(t, r.IntN)
		if len(s.Vars) != len(m.Funcs) || len(m.Funcs) == 0 || ir.Check(m) != api.OK {
			t.Fatalf("%d functions, %d with variables", len(m.Funcs), len(s.Vars))
		}
		args := Arguments(r.IntN, m.Funcs[0].Params)
		ExpectInterpreted(t, s, m, 0, args, 100)
	}
}

func TestExpectInterpreted(t *testing.T) {
	p, _, _ := parser.Parse("func f(a) { a = a + 1; return a; }")
	s, _, _ := checker.Check(p)
	const wrong = "S1 to S3: "
	for about, c := range map[string]struct {
		text       string
		same, true []string
	}{
		"the program":         {"(1) bind 0 to v0; mark 0; v1 = 1; v2 = v0 + v1; bind 0 to v2; mark 1; return v2", nil, nil},
		"another value":       {"(1) bind 0 to v0; mark 0; v1 = 1; v2 = v0 + v1; bind 0 to v2; mark 1; return v1", []string{wrong}, []string{wrong}},
		"a missing event":     {"(1) v1 = 1; v2 = v0 + v1; bind 0 to v2; mark 1; return v2", []string{wrong}, []string{wrong}},
		"an unavailable word": {"(1) bind 0 to v0; mark 0; v1 = 1; v2 = v0 + v1; bind 0 to nowhere; mark 1; return v2", []string{wrong}, nil},
		"another word":        {"(1) bind 0 to v0; mark 0; v1 = 1; v2 = v0 + v1; bind 0 to v0; mark 1; return v2", []string{wrong}, []string{wrong}},
	} {
		m := api.Module{Funcs: []api.Code{Parse(t, c.text)}}
		expectTold(t, about, func(t Tester) { ExpectInterpreted(t, s, m, 0, []int{4}, 10) }, c.same...)
		expectTold(t, about, func(t Tester) { ExpectTrue(t, s, m, 0, []int{4}, 10) }, c.true...)
	}
}
