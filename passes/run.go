package passes

import (
	"slices"
	"strconv"

	"debugger/api"
	"debugger/checker"
	"debugger/interp"
	"debugger/ir"
	"debugger/lower"
	"debugger/parser"
	"debugger/programs"
)

// Program returns the source of a program by chance, and its module before any pass.
func Program(t Tester, choose func(n int) int) (api.Source, api.Module) {
	t.Helper()
	for {
		text, _ := programs.Text(choose)
		if len(text) > api.MaxText {
			continue
		}
		p, _, _ := parser.Parse(text)
		s, _, e := checker.Check(p)
		if e != api.OK {
			t.Fatal(text + " is refused: " + number(e))
		}
		if m, e := lower.Lower(s); e == api.OK {
			return s, m
		}
	}
}

// Arguments returns arguments for a run by chance.
func Arguments(choose func(n int) int, count int) []int {
	words := []int{least, -7, -1, 0, 0, 1, 1, 2, 3, 4, 8, greatest}
	list := []int{}
	for range count {
		list = append(list, words[choose(len(words))])
	}
	return list
}

// Whole returns all events of a run, and its outcome.
func Whole(s api.Source, m api.Module, f int, args []int, steps int) ([]api.Event, api.Outcome) {
	all := []api.Event{}
	for {
		events, o := ir.Trace(s, m, f, args, steps, len(all), 100)
		all = append(all, events...)
		if len(events) < 100 {
			return all, o
		}
	}
}

// ExpectSame checks that a function of two modules runs in the same way, and returns the outcome.
func ExpectSame(t Tester, s api.Source, m, other api.Module, f int, args []int, steps int) api.Outcome {
	t.Helper()
	return ExpectLike(t, s, m, other, f, args, steps, EqualEvents)
}

// ExpectLike checks that a function of two modules has the same outcome and as many events, and that those of the second module are as like those of the first one as they have to be. It returns the outcome.
func ExpectLike(t Tester, s api.Source, m, other api.Module, f int, args []int, steps int, like func(got, want []api.Event) bool) api.Outcome {
	t.Helper()
	events, o := Whole(s, m, f, args, steps)
	got, end := Whole(s, other, f, args, steps)
	if !EqualOutcomes(o, end) || len(events) != len(got) {
		t.Fatal("S1, S2: the outcomes or the numbers of events differ: " + described(f, args, steps, m, other))
	}
	if !like(got, events) {
		t.Fatal("S3: the events differ: " + described(f, args, steps, m, other))
	}
	return o
}

// ExpectFewer is ExpectLike for a second module that may have fewer activations: if the first one has too many of them, both only have to begin in the same way.
func ExpectFewer(t Tester, s api.Source, m, other api.Module, f int, args []int, steps int, like func(got, want []api.Event) bool) api.Outcome {
	t.Helper()
	events, o := Whole(s, m, f, args, steps)
	if o.Err != api.ErrLimit {
		return ExpectLike(t, s, m, other, f, args, steps, like)
	}
	expectBeginning(t, s, m, other, f, args, steps, like, events, o)
	return o
}

// ExpectFurther is ExpectLike for a second module that may enter fewer blocks: if the first one enters too many, both only have to begin in the same way.
func ExpectFurther(t Tester, s api.Source, m, other api.Module, f int, args []int, steps int, like func(got, want []api.Event) bool) api.Outcome {
	t.Helper()
	if !Starved(s, m, f, args, steps) {
		return ExpectLike(t, s, m, other, f, args, steps, like)
	}
	events, o := Whole(s, m, f, args, steps)
	expectBeginning(t, s, m, other, f, args, steps, like, events, o)
	return o
}

// Starved tells whether a run ends because it enters too many blocks: another step would not help.
func Starved(s api.Source, m api.Module, f int, args []int, steps int) bool {
	events, o := Whole(s, m, f, args, steps)
	more, _ := Whole(s, m, f, args, steps+1)
	return o.Err == api.ErrFuel && len(events) == len(more)
}

// expectBeginning checks that the run of a second module begins like that of the first one, whose events and outcome are given.
func expectBeginning(t Tester, s api.Source, m, other api.Module, f int, args []int, steps int, like func(got, want []api.Event) bool, events []api.Event, o api.Outcome) {
	t.Helper()
	got, end := Whole(s, other, f, args, steps)
	if len(got) < len(events) || len(end.Output) < len(o.Output) || !slices.Equal(end.Output[:len(o.Output)], o.Output) {
		t.Fatal("S1, S2: the outputs or the numbers of events differ: " + described(f, args, steps, m, other))
	}
	if !like(got[:len(events)], events) {
		t.Fatal("S3: the events differ: " + described(f, args, steps, m, other))
	}
}

// ExpectKnown checks that what is known in an event is known in another one, and returns how many words are. It ends with the first frame whose position is not known, because there may be several instead.
func ExpectKnown(t Tester, e, got api.Event) int {
	t.Helper()
	words := 0
	for i, f := range e.Frames {
		if f.Stmt < 0 {
			break
		}
		if len(got.Frames) <= i || got.Frames[i].Func != f.Func || got.Frames[i].Stmt != f.Stmt || len(got.Frames[i].Vars) != len(f.Vars) {
			t.Fatal("S2: the frame " + strconv.Itoa(i) + " is another one")
		}
		for j, v := range f.Vars {
			words += expectKnownWords(t, v, got.Frames[i].Vars[j])
		}
	}
	return words
}

func expectKnownWords(t Tester, v, got api.Shown) int {
	t.Helper()
	words := 0
	for w, known := range v.Known {
		if known && (!got.Known[w] || got.Words[w] != v.Words[w]) {
			t.Fatal("S3: the word " + strconv.Itoa(w) + " of the variable " + strconv.Itoa(v.Var) + " is not known any more, or another one")
		}
		if known {
			words++
		}
	}
	return words
}

// ExpectInterpreted checks that a function of a program's module has the outcome and the first events of the interpreter, with all words.
func ExpectInterpreted(t Tester, s api.Source, m api.Module, f int, args []int, steps int) {
	t.Helper()
	expectInterpreted(t, s, m, f, args, steps, EqualEvents)
}

// ExpectTrue checks that a function of a program's module has the outcome and the first events of the interpreter, with words that are right or not known.
func ExpectTrue(t Tester, s api.Source, m api.Module, f int, args []int, steps int) {
	t.Helper()
	expectInterpreted(t, s, m, f, args, steps, Within)
}

func expectInterpreted(t Tester, s api.Source, m api.Module, f int, args []int, steps int, like func(got, want []api.Event) bool) {
	t.Helper()
	events, o := ir.Trace(s, m, f, args, steps, 0, 100)
	wants, want := interp.Trace(s, f, args, steps, 0, 100)
	if !EqualOutcomes(o, want) || !like(events, wants) {
		t.Fatal("S1 to S3: other events than those of\n" + parser.Print(s.Program) + described(f, args, steps, m))
	}
}

// described returns a run of a function of some modules as a text.
func described(f int, args []int, steps int, list ...api.Module) string {
	text := "function " + strconv.Itoa(f) + " with"
	for _, a := range args {
		text += " " + strconv.Itoa(a)
	}
	text += " in " + strconv.Itoa(steps) + " steps"
	for _, x := range list {
		text += "\n" + PrintModule(x)
	}
	return text
}
