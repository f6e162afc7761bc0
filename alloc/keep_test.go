package alloc

import (
	"strings"
	"testing"
)

// expectKept checks the places of the first block of a code with keep, whose positions are Marks or Ats, and what they are without.
func expectKept(t *testing.T, text, keep, without string) {
	t.Helper()
	for _, word := range []string{"mark", "at"} {
		text := strings.ReplaceAll(text, "@", word)
		expectPlaces(t, "P15.2", text, true, keep)
		expectPlaces(t, "P15.2", text, false, without)
	}
}

// A position uses what is bound ahead of it, up to itself.
func TestBound(t *testing.T) {
	expectKept(t, "(1) bind 0 to v0; v1 = 1; @ 3; return v1", "r1 r2", "r1 r1")
	expectKept(t, "(1) bind 0 to v0 + -5; v1 = 1; @ 3; return v1", "r1 r2", "r1 r1")
	expectKept(t, "(1) bind 0 to v0; @ 3; v1 = 1; return v1", "r1 r1", "r1 r1")
	expectKept(t, "(1) bind 0 to v0; @ 3; v1 = 1; @ 4; return v1", "r1 r2", "r1 r1")
	expectKept(t, "(1) bind 0 to v0; v1 = 1; @ 3; v2 = 2; return v2", "r1 r2 r1", "r1 r1 r1")
	expectKept(t, "(1) v1 = 1; bind 0 to v1; v2 = 2; @ 3; v3 = 3; return v2", "r1 r1 r2 r1", "r1 r1 r1 r2")
	expectKept(t, "(0) v0 = 1; bind 0 to v0; @ 3; v1 = 1; @ 3; v2 = 2; tail 0(v1 v2)", "r1 r2 r1", "r1 r1 r2")
}

// Other uses count as well, whichever is the last.
func TestBoundAndUsed(t *testing.T) {
	expectKept(t, "(1) bind 0 to v0; @ 3; v1 = 1; print v0; v2 = 2; tail 0(v1 v2)", "r1 r2 r1", "r1 r2 r1")
	expectKept(t, "(1) bind 0 to v0; print v0; v1 = 1; @ 3; v2 = 2; tail 0(v1 v2)", "r1 r2 r1", "r1 r1 r2")
	expectKept(t, "(1) bind 0 to v0; v1 = 1; @ 3; v2 = 2; tail 0(v0 v1 v2)", "r1 r2 r3", "r1 r2 r3")
}

// Only the latest Bind of a piece counts.
func TestLatest(t *testing.T) {
	expectKept(t, "(2) bind 0 to v0; bind 0 to v1; v2 = 1; @ 3; v3 = 2; tail 0(v2 v3)", "r1 r2 r1 r2", "r1 r2 r1 r2")
	expectKept(t, "(2) bind 0 to v0; bind 0 to v1; v2 = 1; v3 = 2; @ 3; tail 0(v2 v3)", "r1 r2 r1 r3", "r1 r2 r1 r2")
	expectKept(t, "(2) bind 0 to v1; bind 0 to v0; v2 = 1; v3 = 2; @ 3; tail 0(v2 v3)", "r1 r2 r2 r3", "r1 r2 r1 r2")
	expectKept(t, "(1) bind 0 to v0; v1 = 1; @ 3; bind 0 to v1; v2 = 2; @ 4; v3 = 3; tail 0(v2 v3)", "r1 r2 r1 r2", "r1 r1 r1 r2")
	expectKept(t, "(1) bind 0 to v0; bind 0 to nowhere; bind 0 to v0 + 1; v1 = 1; @ 3; return v1", "r1 r2", "r1 r1")
}

// Binds to constants, to nowhere and to a parameter at the entry use nothing, and those ahead of them are not the latest.
func TestOtherBinds(t *testing.T) {
	for _, source := range []string{"nowhere", "constant", "constant + 7", "entry 0", "entry 1 + 2", "entry 1"} {
		expectKept(t, "(2) bind 0 to "+source+"; v2 = 1; @ 3; v3 = 2; tail 0(v2 v3)", "r1 r2 r1 r2", "r1 r2 r1 r2")
		expectKept(t, "(2) bind 0 to v0; bind 0 to "+source+"; v2 = 1; @ 3; v3 = 2; tail 0(v2 v3)", "r1 r2 r1 r2", "r1 r2 r1 r2")
		expectKept(t, "(2) bind 0 to "+source+"; bind 0 to v1; v2 = 1; v3 = 2; @ 3; tail 0(v2 v3)", "r1 r2 r1 r3", "r1 r2 r1 r2")
	}
}

// A value that is bound ahead of its definition is used by the positions behind that only.
func TestDefinedBehind(t *testing.T) {
	expectKept(t, "(0) bind 0 to v0; @ 3; v0 = 1; v1 = 2; return v1", "r1 r1", "r1 r1")
	expectKept(t, "(0) bind 0 to v0; @ 3; v0 = 1; v1 = 2; @ 4; v2 = 3; tail 0(v1 v2)", "r1 r2 r1", "r1 r1 r2")
	expectKept(t, "(0) bind 0 to v0; v0 = 1; @ 3; v1 = 2; return v1", "r1 r1", "r1 r1")
	expectKept(t, "(0) bind 0 to v1; @ 3; v0 = 1; @ 4; v1 = 2; v2 = 3; @ 5; tail 0(v0 v2)", "r1 r2 r3", "r1 r2 r2")
	expectKept(t, "(0) @ 2; bind 0 to v9; @ 3; v0 = 4; bind 0 to v0; v9 = 1; v1 = 2; @ 4; return v1", "r1 r2 - - - - - - - r2", "r1 r1 - - - - - - - r1")
}

// Several pieces, variables and contexts have bindings of their own, and a position of any context uses them all.
func TestPieces(t *testing.T) {
	expectKept(t, "(3) bind 0 to v0; bind 0.1 to v1; bind 1 to v2; v3 = 1; @ 3; return v3", "r1 r2 r3 r4", "r1 r2 r3 r1")
	expectKept(t, "(3) bind 0 to v0; bind 0.1 to v1; bind 0.3 to v2; bind 0.1 to nowhere; v3 = 1; v4 = 1; @ 3; tail 0(v3 v4)", "r1 r2 r3 r2 r4", "r1 r2 r3 r1 r2")
	contexts := lines("context 0 3 1", "context 1 4 0", "")
	expectKept(t, contexts+"(3) bind 0 to v0; bind 0 in 1 to v1; bind 0 in 2 to v2; v3 = 1; @ 3 in 1; return v3", "r1 r2 r3 r4", "r1 r2 r3 r1")
	expectKept(t, contexts+"(3) bind 0 in 2 to v0; bind 0 in 1 to v1; bind 0 in 1 to constant; bind 0 to v2; v3 = 1; v4 = 1; @ 3; tail 0(v3 v4)", "r1 r2 r3 r2 r4", "r1 r2 r3 r1 r2")
	expectKept(t, contexts+"(1) bind 3.2 in 1 to v0; v1 = 1; @ 3; return v1", "r1 r2", "r1 r1")
	expectKept(t, contexts+"(1) bind 3.2 to v0; v1 = 1; @ 3 in 2; return v1", "r1 r2", "r1 r1")
	expectKept(t, "(1) bind 0 to v0; bind 1 to v0; bind 0 to constant; v1 = 1; @ 3; return v1", "r1 r2", "r1 r1")
}

// Binds behind a position, and positions ahead of a Bind, have nothing to do with each other; nor have other blocks.
func TestBindsBehind(t *testing.T) {
	expectKept(t, "(1) v1 = 1; @ 3; bind 0 to v0; return v1", "r1 r1", "r1 r1")
	expectKept(t, "(1) @ 2; v1 = 1; bind 0 to v0; v2 = 1; tail 0(v1 v2)", "r1 r1 r2", "r1 r1 r2")
	expectKept(t, lines("(1) v1 = 1; bind 0 to v0; jump 1(v1)", "(1) @ 3; return v0"), "r1 r1", "r1 r1")
}
