package isa

import (
	"slices"
	"testing"

	"debugger/api"
)

// roomy returns a copy of a list with more memory behind it, which holds 77.
func roomy(list []int) []int {
	room := append(slices.Clone(list), slices.Repeat([]int{77}, 100)...)
	return room[:len(list)]
}

// expectKept checks that a list and the memory behind it are as they were.
func expectKept(t *testing.T, about string, list, want []int) {
	t.Helper()
	if !slices.Equal(list[:cap(list)], want) {
		t.Errorf("P2: %s are %v", about, list[:cap(list)])
	}
}

// A run changes neither its words nor its arguments, and keeps nothing for the next one.
func TestMemory(t *testing.T) {
	args := roomy([]int{6, 1})
	given := slices.Clone(args[:cap(args)])
	for _, text := range []string{"print r1; print r14; store r1 r2 0; store r1 r2 1; store r1 r2 2; jump -1", "print r1; jump 0"} {
		w := roomy(words(t, text))
		before := slices.Clone(w[:cap(w)])
		first := Run(w, 28, 0, args, 9)
		want := slices.Clone(first.Output)
		second := Run(w, 28, 0, args, 9)
		if !slices.Equal(second.Output, want) || len(want) == 0 {
			t.Errorf("P3: the second outcome is %+v, not %+v", second, first)
		}
		clear(first.Output[:cap(first.Output)])
		if !slices.Equal(second.Output, want) || !equal(Run(slices.Clip(w), 28, 0, slices.Clip(args), 9), second) {
			t.Errorf("P2: the output changes with an earlier one, or with the capacity: %v", second.Output)
		}
		expectKept(t, "the words", w, before)
	}
	expectKept(t, "the arguments", args, given)
}

// Spare memory behind the words is no part of the program.
func TestSpareWords(t *testing.T) {
	w := words(t, "nop; return; jump -1; nop")
	expectWords(t, w[:1], 20, 0, nil, 9, fault())
	expectWords(t, w[:2], 20, 2, nil, 9, fault())
	expectWords(t, w[:3], 20, 2, nil, 9, ended(0))
	expectRun(t, "print r3; return", 20, 0, []int{1, 2, 3}[:2], 9, ended(0, 0))
}

func TestNilArguments(t *testing.T) {
	for _, none := range [][]int{nil, {}} {
		expectWords(t, none, 16, 0, none, 5, fault())
		expectWords(t, words(t, "print r1; return"), 18, 0, none, 5, ended(0, 0))
	}
	if o := Run(nil, 16, api.Exit, nil, 0); !equal(o, api.Outcome{}) {
		t.Errorf("P6: the outcome is %+v", o)
	}
}
