package emit

import "testing"

// expectRows checks the rows of the first function.
func expectRows(t *testing.T, keep bool, want string, texts ...string) {
	t.Helper()
	expectText(t, "P17.5", rows(emitted(t, keep, texts...).Funcs[0]), want)
}

// expectSameRows checks the rows of a function without Marks, with keep and without.
func expectSameRows(t *testing.T, want string, texts ...string) {
	t.Helper()
	expectRows(t, false, want, texts...)
	expectRows(t, true, want, texts...)
}

// A block 0 without a position has a row of its own behind the prologue.
func TestFirstRows(t *testing.T) {
	expectSameRows(t, "0 -1", "(1) return v0")
	expectSameRows(t, "0 -1; 1 -1; 4 -1", "object 0 0 1\n(1) return v0")
	expectSameRows(t, "0 7", "(1) at 7; return v0")
	expectSameRows(t, "0 -1; 1 7; 4 -1", "object 0 0 1\n(1) at 7; return v0")
	expectSameRows(t, "0 -1; 1 7", "(1) print v0; at 7; return v0")
	expectSameRows(t, "0 -1; 1 -1; 2 7; 5 -1", "object 0 0 1\n(1) print v0; at 7; return v0")
}

// Each function has rows at its own addresses.
func TestRowsOfFunctions(t *testing.T) {
	u := emitted(t, true, "(1) mark 3; return v0", "object 0 0 2\n(1) mark 4; return v0", "(1) at 0; return v0")
	for f, want := range []string{"0 3*", "4 -1; 5 4*; 9 -1", "10 0"} {
		expectText(t, "P17.5", rows(u.Funcs[f]), want)
	}
}

func TestRowsOfBlocks(t *testing.T) {
	expectSameRows(t, "0 -1; 1 -1; 2 -1", "(1) jump 1(v0)\n(1) jump 2(v0)\n(1) return v0")
	expectSameRows(t, "0 2; 1 3; 2 -1; 3 4", "(1) at 2; jump 1(v0)\n(1) at 3; jump 2(v0)\n(1) print v0; at 4; return v0")
}

// With keep each Mark has an address of its own; without it the last position of several stands.
func TestRowsOfMarks(t *testing.T) {
	text := "(1) mark 3; at 4; print v0; mark 5; mark 6; at 7; mark 8; return v0"
	expectRows(t, false, "0 4; 1 8*", text)
	expectRows(t, true, "0 3*; 1 4; 2 5*; 3 6*; 4 8*", text)
	text = "(1) print v0; mark 5; at 5; v1 = 2; at 0; return v1"
	expectRows(t, false, "0 -1; 1 5; 2 0", text)
	expectRows(t, true, "0 -1; 1 5*; 2 5; 3 0", text)
	text = "(1) at 6; mark 9999; print v0; mark 9999; at 9999; bind 0 to v0; at 9999; return v0"
	expectRows(t, false, "0 9999*; 1 9999", text)
	expectRows(t, true, "0 9999*; 2 9999*; 3 9999", text)
}

func TestRowsOfContexts(t *testing.T) {
	text := "context 0 7 0\ncontext 1 8 0\n(1) mark 3 in 1; print v0; at 4 in 2; print v0; mark 5; return v0"
	expectRows(t, false, "0 3* in 1; 1 4 in 2; 2 5*", text)
	expectRows(t, true, "0 3* in 1; 2 4 in 2; 3 5*", text)
}

// Behind a Store and a Zero the position is not known, whatever the context was.
func TestRowsBehindStores(t *testing.T) {
	head := "object 0 0 2\ncontext 0 7 0\n"
	expectSameRows(t, "0 -1; 1 3; 3 -1; 6 -1", head+"(1) at 3; store 0 v0 v0; return v0")
	expectSameRows(t, "0 -1; 1 3 in 1; 4 -1; 7 -1", head+"(1) at 3 in 1; zero 0; return v0")
	expectSameRows(t, "0 -1; 1 3; 3 -1; 5 -1; 8 -1; 11 -1", head+"(1) at 3; store 0 v0 v0; store 0 v0 v0; zero 0; return v0")
	expectSameRows(t, "0 -1; 1 3; 3 4 in 1; 6 5; 9 -1", head+"(1) at 3; store 0 v0 v0; at 4 in 1; zero 0; at 5; return v0")
	expectRows(t, true, "0 -1; 1 3; 3 4*; 7 -1", head+"(1) at 3; store 0 v0 v0; mark 4; return v0")
	expectSameRows(t, "0 -1; 1 3; 7 -1", head+"(1) at 3; v1 = load 0 v0; print v1; return v0")
}

// Behind the frame's end nothing is known, at a Return, a Throw and a Tail.
func TestRowsBehindFrames(t *testing.T) {
	expectSameRows(t, "0 -1; 1 3; 4 -1", "object 0 0 2\n(1) at 3; throw v0")
	expectSameRows(t, "0 -1; 1 3; 3 -1", "object 0 0 2\n(2) at 3; tail 0(v1 v1)")
	expectSameRows(t, "0 3", "(1) at 3; throw v0")
	expectSameRows(t, "0 3", "(2) at 3; tail 0(v1 v1)")
	expectSameRows(t, "0 -1; 1 3; 4 4; 7 -1; 8 -1; 11 -1", "object 0 0 2\n(1) at 3; branch v0 1(v0) 2(v0)\n(1) at 4; return v0\n(1) throw v0")
}

// At the normal part of a Call without a handler the position is again what it was, but no Mark.
func TestRowsOfCalls(t *testing.T) {
	frame := "object 0 0 2\ncontext 0 7 0\n"
	expectSameRows(t, "0 -1; 1 3 in 1; 4 -1; 5 3 in 1; 7 -1; 10 -1", frame+"(1) at 3 in 1; call 1(v0) 1()\n(1) return v0", leaf)
	expectRows(t, false, "0 -1; 1 3*; 4 -1; 5 3; 7 -1; 10 -1", frame+"(1) mark 3; call 1(v0) 1()\n(1) return v0", leaf)
	expectRows(t, true, "0 -1; 1 3*; 5 -1; 6 3; 8 -1; 11 -1", frame+"(1) mark 3; call 1(v0) 1()\n(1) return v0", leaf)
	expectSameRows(t, "0 -1; 1 -1; 4 -1; 5 -1; 7 -1; 10 -1", frame+"(1) call 1(v0) 1()\n(1) return v0", leaf)
	expectSameRows(t, "0 -1; 1 3; 3 -1; 6 -1; 7 -1; 9 -1; 12 -1", frame+"(1) at 3; store 0 v0 v0; call 1(v0) 1()\n(1) return v0", leaf)
	expectSameRows(t, "0 3; 5 -1", "(1) at 3; call 1(v0) 1()\n(1) return v0", leaf)
	expectSameRows(t, "0 -1; 1 3; 7 -1; 10 -1", frame+"(1) at 3; call 1(v0) 1() 1()\n(1) return v0", leaf)
	expectSameRows(t, "0 3; 6 -1", "(1) at 3; call 1(v0) 1() 1()\n(1) return v0", leaf)
}
