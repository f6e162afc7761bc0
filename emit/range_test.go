package emit

import (
	"strings"
	"testing"
)

// expectPieces checks the ranges of the first function without keep and with keep.
func expectPieces(t *testing.T, without, with string, texts ...string) {
	t.Helper()
	expectRanges(t, "P17.7", false, without, texts...)
	expectRanges(t, "P17.7", true, with, texts...)
}

// expectSame checks ranges that are the same in both cases.
func expectSame(t *testing.T, want string, texts ...string) {
	t.Helper()
	expectPieces(t, want, want, texts...)
}

func TestRangesOfConstants(t *testing.T) {
	expectSame(t, "0-4 0: c7", "(0) bind 0 to constant + 7; at 3; v0 = 1; return v0")
	expectSame(t, "0-4 0: c0", "(0) bind 0 to constant; at 3; v0 = 1; return v0")
	expectSame(t, "0-4 0: c-9223372036854775808; 0-4 1: c9223372036854775807",
		"(0) bind 0 to constant + -9223372036854775808; bind 1 to constant + 9223372036854775807; at 3; v0 = 1; return v0")
}

func TestRangesOfValues(t *testing.T) {
	expectPieces(t, "0-3 0: r1+5 e1+5; 0-3 1: r1+-3 e1+-3; 0-3 2: r2 e2", "0-3 0: r1+5; 0-3 1: r1+-3; 0-3 2: r2",
		"(2) bind 0 to v0 + 5; bind 1 to v0 + -3; bind 2 to v1; at 3; return v0")
	expectSame(t, "1-4 0: r1; 1-4 1: r1+7", "(0) bind 0 to v0; bind 1 to v0 + 7; at 3; v0 = 1; return v0")
	expectSame(t, "11-14 0: s1+-1; 11-14 1: r8+2",
		lines("(1) jump 1("+arguments(0, 10)+")", "(10) bind 0 to v9 + -1; bind 1 to v7 + 2; at 3; return v0"))
}

// A value may lie in several slots and registers: all of them are places, in rising order.
func TestSeveralPlaces(t *testing.T) {
	text := lines("(1) bind 0 to v0 + 1; at 3; jump 1("+arguments(0, 10)+")", "(10) return v0")
	registers := func(count int) string {
		return each(1, count+1, func(n int) string { return number(" r", n) + "+1" })
	}
	want := each(1, 9, func(k int) string { return number("", k) + number("-", k+1) + " 0:" + registers(k) + "?; " })
	want += "9-10 0: s0+1" + registers(8) + "?; 10-11 0: s0+1 s1+1" + registers(8) + "?"
	expectPieces(t, strings.ReplaceAll(want, "?", " e1+1"), strings.ReplaceAll(want, "?", ""), text)
}

// The registers at the entry are places of the parameters of block 0 there, wherever these lie, and of bindings to them in every block.
func TestRangesOfEntries(t *testing.T) {
	expectPieces(t, "0-1 0: r1 e1; 1-4 0: e1", "0-1 0: r1", "(1) bind 0 to v0; at 3; v1 = 5; return v1")
	expectPieces(t, "1-4 0: r1; 1-4 1: r4+-1 e4+-1", "1-4 0: r1; 1-4 1: r4+-1", "(4) v4 = 1; bind 0 to v4; bind 1 to v3 + -1; at 3; return v4")
	expectSame(t, "1-4 0: r1", second(1, "bind 0 to v0; at 3; return v0"))
	expectPieces(t, "0-1 0: e2+4; 1-5 0: e1; 1-5 1: e2", "",
		"(2) bind 0 to entry 1 + 4; at 3; jump 1()\n(0) bind 0 to entry 0; bind 1 to entry 1; at 4; v0 = 1; return v0")
}

// A function that a tail call leads to, from wherever it is, has no such places.
func TestRangesOfTailed(t *testing.T) {
	text := "(1) bind 0 to v0; bind 1 to entry 0; bind 2 to constant; at 3; return v0"
	without, with := "0-3 0: r1; 0-3 2: c0", "0-3 0: r1 e1; 0-3 1: e1; 0-3 2: c0"
	expectSame(t, without, text, "(1) tail 0(v0)")
	expectSame(t, without, text+"\n(1) tail 0(v0)")
	expectSame(t, without, text, leaf, "(1) at 3; return v0\n(1) print v0; tail 0(v0)")
	expectPieces(t, with, without, text, "(1) call 0(v0) 1()\n(1) return v0")
	expectPieces(t, with, without, text, "(1) tail 1(v0)")
	u := emitted(t, false, text, "(1) bind 0 to v0; at 3; tail 0(v0)", "(1) bind 0 to entry 0; at 3; tail 2(v0)")
	for f, want := range []string{without, "3-4 0: r1 e1", ""} {
		expectText(t, "P17.7", ranges(u.Funcs[f]), want)
	}
}

func TestNoRange(t *testing.T) {
	text := "(1) bind 0 to v0; at 3; print v0; bind 0 to nowhere; print v0; at 4; print v0; bind 0 to v0; at 5; return v0"
	expectPieces(t, "0-2 0: r1 e1; 3-6 0: r1 e1", "0-2 0: r1; 3-6 0: r1", text)
	expectSame(t, "", "(1) bind 0 to nowhere; bind 0.1 to nowhere; at 3; return v0")
}

// Ranges are ordered by their addresses, then by contexts, variables and pieces.
func TestOrder(t *testing.T) {
	expectSame(t, "0-3 2.3: c5; 0-3 3.1: c4; 0-3 3.2: c3; 0-3 0 in 1: c2; 0-3 0.1 in 1: c1; 0-3 1 in 1: c0",
		"context 0 7 0\n(1) bind 1 in 1 to constant; bind 0.1 in 1 to constant + 1; bind 0 in 1 to constant + 2; bind 3.2 to constant + 3; bind 3.1 to constant + 4; bind 2.3 to constant + 5; at 3; return v0")
	expectSame(t, "0-4 5: c0; 1-4 0: c1", "(1) bind 5 to constant; at 3; print v0; bind 0 to constant + 1; at 4; return v0")
	expectPieces(t, "1-4 0: r1 e1; 1-4 0.1: r1 e1; 1-4 0 in 1: r1 e1", "1-4 0: r1; 1-4 0.1: r1; 1-4 0 in 1: r1",
		"context 0 7 0\n(1) print v0; bind 0.1 to v0; bind 0 in 1 to v0; bind 0 to v0; at 3; return v0")
}

// Binds become current at the next Mark or At, the latest of each piece, and stay so up to the next one.
func TestBecomingCurrent(t *testing.T) {
	expectSame(t, "", "(1) bind 0 to v0; print v0; return v0")
	expectSame(t, "", "(1) at 3; bind 0 to v0; print v0; return v0")
	expectPieces(t, "1-5 0: c0; 2-5 1: c1", "1-6 0: c0; 3-6 1: c1", "(1) bind 0 to constant; print v0; mark 3; bind 1 to constant + 1; print v0; at 4; return v0")
	expectSame(t, "0-3 0: c1", "(1) bind 0 to constant; bind 0 to constant + 1; at 3; return v0")
	expectSame(t, "0-1 0: c0; 1-4 0: c1", "(1) bind 0 to constant; at 3; bind 0 to constant + 1; print v0; at 4; return v0")
	expectPieces(t, "0-3 0: c1", "0-1 0: c0; 1-5 0: c1", "(1) bind 0 to constant; mark 3; bind 0 to constant + 1; mark 4; return v0")
}

// Where the position becomes unknown none is current; all Binds of the block count again at the next position.
func TestUnknown(t *testing.T) {
	text := "object 0 0 2\n(1) bind 0 to v0; at 3; print v0; store 0 v0 v0; print v0; bind 1 to constant; at 4; print v0; zero 0; print v0; at 5; return v0"
	expectPieces(t, "1-4 0: r1 e1; 5-9 0: r1 e1; 5-9 1: c0; 10-13 0: r1 e1; 10-13 1: c0", "1-4 0: r1; 5-9 0: r1; 5-9 1: c0; 10-13 0: r1; 10-13 1: c0", text)
	expectSame(t, "1-6 0: c0", "object 0 0 2\n(1) bind 0 to constant; at 3; store 0 v0 v0; at 4; return v0")
	expectSame(t, "1-5 0: c0", "object 0 0 2\n(1) bind 0 to constant; at 3; print v0; print v0; store 0 v0 v0; return v0")
}

// Ranges go on over the end of a block if the next one begins with the same places, also of another value.
func TestAcrossBlocks(t *testing.T) {
	expectPieces(t, "0-2 0: r1 e1; 2-5 0: r1", "0-5 0: r1", "(1) bind 0 to v0; at 3; print v0; jump 1(v0)\n(1) bind 0 to v0; at 4; return v0")
	expectSame(t, "0-4 0: c0", "(1) bind 0 to constant; at 3; jump 1(v0)\n(1) bind 0 to constant; at 4; return v0")
	expectSame(t, "0-1 0: c0; 1-4 0: c1", "(1) bind 0 to constant; at 3; jump 1(v0)\n(1) bind 0 to constant + 1; at 4; return v0")
	expectSame(t, "0-1 0: c0; 2-5 0: c0", "(1) bind 0 to constant; at 3; jump 1(v0)\n(1) print v0; bind 0 to constant; at 4; return v0")
	expectSame(t, "0-1 0: c0; 4-7 0: c0", "(1) bind 0 to constant; at 3; jump 2(v0)\n(1) return v0\n(1) bind 0 to constant; at 4; return v0")
	expectPieces(t, "0-1 0: r1 e1; 1-4 0: r1", "0-4 0: r1", "(1) bind 0 to v0; at 3; v1 = copy v0; bind 0 to v1; at 4; return v1")
}

// Each function has ranges of its own.
func TestAcrossFunctions(t *testing.T) {
	text := "(0) bind 0 to constant; at 3; jump 1()\n(0) bind 0 to constant; at 3; jump 1()"
	u := emitted(t, false, text, text)
	expectText(t, "P17.7", ranges(u.Funcs[0]), "0-2 0: c0")
	expectText(t, "P17.7", ranges(u.Funcs[1]), "2-4 0: c0")
}

// What was current ahead of the end of the frame is current again at the normal part of a Call without a handler.
func TestRangesOfCalls(t *testing.T) {
	expectSame(t, "0-5 0: c0", "(1) bind 0 to constant; at 3; call 1(v0) 1()\n(1) return v0", leaf)
	expectSame(t, "1-4 0: c0; 5-7 0: c0", "object 0 0 1\n(1) bind 0 to constant; at 3; call 1(v0) 1()\n(1) return v0", leaf)
	expectSame(t, "1-3 0: c0", "object 0 0 1\n(1) bind 0 to constant; at 3; zero 0; call 1(v0) 1()\n(1) return v0", leaf)
	expectSame(t, "1-7 0: c0", "object 0 0 1\n(1) bind 0 to constant; at 3; call 1(v0) 1() 1()\n(1) return v0", leaf)
}
