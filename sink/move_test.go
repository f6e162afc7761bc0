package sink

import (
	"fmt"
	"testing"
)

// head gives the codes of these tests objects and a context.
const head = "context 0 7 1\nobject 0 0 2\nobject 1 0 2\n"

// moved are the operations that are moved, each as the value 3.
func moved() []string {
	list := []string{"v3 = 0; ", "v3 = -5; ", "v3 = copy v0; ", "v3 = copy v2; "}
	for _, sign := range signs {
		list = append(list, "v3 = v0 "+sign+" v2; ", "v3 = v2 "+sign+" v2; ")
	}
	return list
}

// fixed are operations that are not moved; they use the values 0, 1 and 2 alone, or 3 in a Bind.
var fixed = []string{"v4 = load 0 v0; ", "v5 = load 1 v2; ", "store 0 v0 v1; ", "store 1 v2 v2; ", "zero 0; ", "zero 1; ", "print v0; ", "print v2; ",
	"mark 3; ", "mark 3 in 1; ", "at 3; ", "at 4 in 1; ", "bind 0 to nowhere; ", "bind 1 to constant + 3; ", "bind 2 to v1 + 3; ", "bind 3 to entry 1 + 3; ", "bind 0 to v3; ", "bind 1.2 in 1 to v3 + 2; "}

// An operation goes past everything that is not moved, one by one and all of it together, to the one that uses its value, or to the end.
func TestMovedKinds(t *testing.T) {
	all := ""
	for _, o := range fixed {
		all += o
	}
	for _, o := range moved() {
		for _, past := range append(fixed, all) {
			expectSunk(t, head+"(3) "+o+past+"print v3; return v0", head+"(3) "+past+o+"print v3; return v0")
			expectSunk(t, head+"(3) "+o+past+"return v0", head+"(3) "+past+o+"return v0")
		}
	}
}

// The others are not moved, past each other or past what is moved.
func TestFixedKinds(t *testing.T) {
	for i, o := range fixed {
		for j, other := range fixed {
			if i != j {
				expectKept(t, head+"(3) "+o+other+"v3 = 1; print v3; return v0")
			}
		}
		for _, last := range moved() {
			expectKept(t, head+"(3) "+o+last+"return v0")
			expectKept(t, head+"(3) "+last+"print v3; "+o+"print v3; return v0")
		}
	}
	// A Load is not put ahead of the first use of its value either.
	expectKept(t, head+"(3) v3 = load 0 v0; mark 1; zero 0; print v1; print v3; return v0")
}

// An operation stands directly ahead of the first one that uses its value, as A, as B or as both.
func TestUses(t *testing.T) {
	users := []string{"v4 = load 0 v3; print v4; ", "store 0 v3 v1; ", "store 0 v1 v3; ", "store 0 v3 v3; ", "print v3; ", "v4 = copy v3; print v4; "}
	for _, sign := range signs {
		for _, operands := range []string{"v3 %s v1", "v1 %s v3", "v3 %s v3"} {
			users = append(users, "v4 = "+fmt.Sprintf(operands, sign)+"; print v4; ")
		}
	}
	for _, o := range moved() {
		for _, user := range users {
			rest := user + "mark 5; print v3; return v0"
			expectSunk(t, head+"(3) "+o+"mark 4; print v1; "+rest, head+"(3) mark 4; print v1; "+o+rest)
			expectKept(t, head+"(3) mark 4; "+o+rest)
		}
	}
}

// In a block without parameters v0 is defined by an operation: fields that are not used, which are 0, and numbers of other things are no uses of it.
func TestFieldsThatAreNoUses(t *testing.T) {
	for _, past := range []string{"mark 0; ", "at 0; ", "zero 0; ", "bind 0 to nowhere; ", "bind 0 to constant; ", "bind 0 to v0; ", "bind 0 to v1; ",
		"v2 = 0; print v2; ", "v2 = copy v1; print v2; ", "v2 = load 0 v1; ", "store 0 v1 v1; ", "print v1; ", "v2 = 0; v3 = v2 + v2; print v3; "} {
		for _, o := range []string{"v0 = 0; ", "v0 = copy v1; ", "v0 = v1 / v1; "} {
			from := head + "(0) v1 = 1; print v1; " + o + past
			want := head + "(0) v1 = 1; print v1; " + past + o
			expectSunk(t, from+"print v0; return v1", want+"print v0; return v1")
			expectSunk(t, from+"return v1", want+"return v1")
		}
	}
	// Here the numbers are 3: of objects, statements, contexts, variables, pieces, and what is added.
	objects := "context 0 7 1\ncontext 0 7 1\ncontext 0 7 1\nobject 0 0 2\nobject 0 1 2\nobject 0 2 2\nobject 0 3 2\n"
	for _, past := range []string{"mark 3 in 3; ", "at 3 in 3; ", "zero 3; ", "bind 3.3 in 3 to constant + 3; ", "bind 3.3 in 3 to v3 + 3; ", "bind 3.3 in 3 to v1 + 3; ", "v4 = load 3 v1; ", "store 3 v1 v1; ", "v4 = 3; print v4; "} {
		expectSunk(t, objects+"(2) v3 = 3; "+past+"print v3; return v0", objects+"(2) "+past+"v3 = 3; print v3; return v0")
		expectSunk(t, objects+"(2) v3 = 3; "+past+"return v0", objects+"(2) "+past+"v3 = 3; return v0")
	}
}

// What a terminator uses is used behind the end, and in no order.
func TestTerminators(t *testing.T) {
	for _, end := range []string{"return v1", "throw v2", "branch v1 1() 2(v2)", "branch v2 2(v1) 2(v2)", "jump 2(v1)", "call 3(v1 v2) 2()", "call 3(v2) 2() 3(v1)", "tail 4(v1 v2)"} {
		rest := "\n(0) v0 = 1; return v0\n(1) return v0\n(2) return v0"
		expectSunk(t, "(1) v1 = 5; v2 = copy v0; mark 3; "+end+rest, "(1) mark 3; v2 = copy v0; v1 = 5; "+end+rest)
	}
}

// Several that no operation uses stand behind the end in the opposite order, as they were taken.
func TestUnused(t *testing.T) {
	expectSunk(t, "(1) v1 = 1; v2 = 2; v3 = 3; return v2", "(1) v3 = 3; v2 = 2; v1 = 1; return v2")
	expectSunk(t, "(1) v1 = v0 + v0; mark 1; v2 = copy v0; bind 0 to v1; mark 2; v3 = 3; bind 1 to v3; return v3",
		"(1) mark 1; bind 0 to v1; mark 2; bind 1 to v3; v3 = 3; v2 = copy v0; v1 = v0 + v0; return v3")
	expectSunk(t, "(1) v1 = 1; v2 = 2; print v1; v3 = 3; v4 = 4; print v4; v5 = 5; return v0",
		"(1) v1 = 1; print v1; v4 = 4; print v4; v5 = 5; v3 = 3; v2 = 2; return v0")
}

// Several that one operation uses stand ahead of it as they stood, each directly ahead of it when it was put there.
func TestOneUser(t *testing.T) {
	expectSunk(t, "(0) v0 = 1; v1 = 2; v2 = v0 + v1; print v2; return v2", "(0) v1 = 2; v0 = 1; v2 = v0 + v1; print v2; return v2")
	expectSunk(t, "(0) v1 = 2; v0 = 1; v2 = v0 + v1; print v2; return v2", "(0) v0 = 1; v1 = 2; v2 = v0 + v1; print v2; return v2")
	expectSunk(t, "object 0 0 2\n(1) v1 = 1; mark 1; v2 = v0 + v0; mark 2; store 0 v1 v2; return v0", "object 0 0 2\n(1) mark 1; mark 2; v2 = v0 + v0; v1 = 1; store 0 v1 v2; return v0")
}

// The first use counts as the list is then: a user that was itself moved is no longer the first one.
func TestFirstOfTheList(t *testing.T) {
	expectSunk(t, "(1) v1 = 1; v2 = v1 + v0; mark 1; print v1; mark 2; print v2; return v0",
		"(1) mark 1; v1 = 1; print v1; mark 2; v2 = v1 + v0; print v2; return v0")
	expectSunk(t, "(1) v1 = 1; v2 = copy v1; v3 = copy v1; mark 1; print v3; mark 2; print v2; return v0",
		"(1) mark 1; v1 = 1; v3 = copy v1; print v3; mark 2; v2 = copy v1; print v2; return v0")
	expectSunk(t, "(1) v1 = 1; v2 = copy v1; v3 = copy v1; return v0", "(1) v1 = 1; v3 = copy v1; v2 = copy v1; return v0")
	expectSunk(t, "(1) v1 = 1; v2 = copy v1; v3 = copy v1; print v2; return v0", "(1) v1 = 1; v2 = copy v1; print v2; v3 = copy v1; return v0")
}

func TestChains(t *testing.T) {
	expectSunk(t, "(1) v1 = 1; v2 = v0 + v1; v3 = v2 * v0; v4 = copy v3; bind 0 to v4; mark 1; print v0; print v4; return v4",
		"(1) bind 0 to v4; mark 1; print v0; v1 = 1; v2 = v0 + v1; v3 = v2 * v0; v4 = copy v3; print v4; return v4")
	// without a use in an operation
	expectSunk(t, "(1) v1 = 1; mark 1; v2 = v0 + v1; mark 2; v3 = v2 * v1; mark 3; return v3",
		"(1) mark 1; mark 2; mark 3; v1 = 1; v2 = v0 + v1; v3 = v2 * v1; return v3")
	// with uses in between
	expectSunk(t, "(1) v1 = 1; v2 = v0 + v1; v3 = v2 * v1; mark 1; print v2; mark 2; print v1; mark 3; print v3; return v3",
		"(1) mark 1; v1 = 1; v2 = v0 + v1; print v2; mark 2; print v1; mark 3; v3 = v2 * v1; print v3; return v3")
	// two of them for one user
	expectSunk(t, "(1) v1 = 1; v2 = 2; v3 = v0 + v1; v4 = v0 - v2; mark 1; v5 = v3 * v4; mark 2; print v5; return v0",
		"(1) mark 1; mark 2; v2 = 2; v4 = v0 - v2; v1 = 1; v3 = v0 + v1; v5 = v3 * v4; print v5; return v0")
	// What a Load uses stays ahead of it, whatever uses the Load.
	expectSunk(t, head+"(1) v1 = 1; mark 1; v2 = load 0 v1; mark 2; v3 = v2 + v1; zero 0; print v3; return v0",
		head+"(1) mark 1; v1 = 1; v2 = load 0 v1; mark 2; zero 0; v3 = v2 + v1; print v3; return v0")
}

// A piece that is bound to a value is not known at a Mark that stands ahead of its operation now.
func TestBinds(t *testing.T) {
	expectSunk(t, "(1) v1 = copy v0; bind 0 to v1; mark 1; v2 = 5; bind 0 to v2; bind 1 to v1; mark 2; print v1; mark 3; return v2",
		"(1) bind 0 to v1; mark 1; bind 0 to v2; bind 1 to v1; mark 2; v1 = copy v0; print v1; mark 3; v2 = 5; return v2")
	expectKept(t, "(1) bind 0 to v1; mark 1; v1 = 1; print v1; mark 2; return v1")
}
