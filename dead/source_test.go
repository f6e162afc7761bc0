package dead

import (
	"fmt"
	"strings"
	"testing"
)

// source is what becomes of a Bind to a value in a block. Of its parameters 0 stays, 1 has the origin 1, and 2 has none.
type source struct {
	ops  string // of the block
	of   int    // the value
	kept string // the operations that stay
	want string // to what the Bind binds
	more int    // what is added to the Add of the Bind
}

// What keeps the value 3, or the value 4.
const (
	keeping3 = "print v3; "
	keeping4 = "print v4; "
)

// expectSource checks a Bind with an Add, behind the operations of the block and ahead of them.
func expectSource(t *testing.T, s source, add int) {
	t.Helper()
	to := s.want
	if to != "nowhere" {
		to += fmt.Sprintf(" + %d", add+s.more)
	}
	from, want := fmt.Sprintf("bind 1.2 in 1 to v%d + %d; mark 3; ", s.of, add), "bind 1.2 in 1 to "+to+"; mark 3; "
	head := "context 0 7 1\nobject 0 0 4\n"
	expectDead(t, "P10.6",
		lines(head+"(2) v9 = 3; jump 1(v0 v1 v9)", "(3) "+s.ops+from+"return v0"),
		lines(head+"(2) jump 1(v0)", "(1) "+s.kept+want+"return v0"))
	expectDead(t, "P10.6",
		lines(head+"(2) v9 = 3; jump 1(v0 v1 v9)", "(3) "+from+s.ops+"return v0"),
		lines(head+"(2) jump 1(v0)", "(1) "+want+s.kept+"return v0"))
}

// expectSources checks each of some Binds with several Adds.
func expectSources(t *testing.T, list ...source) {
	t.Helper()
	for _, s := range list {
		for _, add := range []int{0, 1, -100, least, greatest} {
			expectSource(t, s, add)
		}
	}
}

func TestSourcesThatStay(t *testing.T) {
	expectSources(t,
		source{"", 0, "", "v0", 0},
		source{"v3 = 5; " + keeping3, 3, "v3 = 5; " + keeping3, "v3", 0},
		source{"v3 = copy v0; " + keeping3, 3, "v3 = copy v0; " + keeping3, "v3", 0},
		source{"v4 = 5; v3 = v0 + v4; " + keeping3, 3, "v4 = 5; v3 = v0 + v4; " + keeping3, "v3", 0},
		source{"v4 = 5; v3 = v0 + v4; " + keeping3, 4, "v4 = 5; v3 = v0 + v4; " + keeping3, "v4", 0},
		source{"v4 = 5; v3 = v4 - v0; " + keeping3, 3, "v4 = 5; v3 = v4 - v0; " + keeping3, "v3", 0},
		source{"v3 = load 0 v0; " + keeping3, 3, "v3 = load 0 v0; " + keeping3, "v3", 0})
	// The parameters of the function stay.
	expectKept(t, "P10.6", "(3) bind 0 to v1 + 2; bind 1 to v2; bind 2 to v0; mark 3; return v0")
}

// Other sources stay, whatever they are.
func TestOtherSources(t *testing.T) {
	binds := "bind 0 to nowhere; bind 1.3 in 1 to constant + 7; bind 2 to entry 1 + 3; bind 2 to entry 0; bind 3 to constant; mark 3; "
	expectDead(t, "P10.6",
		lines("context 0 7 1", "(2) v2 = 1; "+binds+"jump 1(v1 v0)", "(2) v2 = 1; "+binds+"return v1"),
		lines("context 0 7 1", "(2) "+binds+"jump 1(v0)", "(1) "+binds+"return v0"))
}

func TestParameters(t *testing.T) {
	expectSources(t, source{"", 1, "", "entry 1", 0}, source{"", 2, "", "nowhere", 0})
}

func TestConstants(t *testing.T) {
	for _, n := range []int{0, 7, -7, least, greatest} {
		expectSources(t, source{fmt.Sprintf("v3 = %d; ", n), 3, "", "constant", n})
	}
}

func TestCopies(t *testing.T) {
	expectSources(t,
		source{"v3 = copy v0; ", 3, "", "v0", 0},
		source{"v3 = copy v1; ", 3, "", "entry 1", 0},
		source{"v3 = copy v2; ", 3, "", "nowhere", 0},
		source{"v3 = 5; v4 = copy v3; ", 4, "", "constant", 5},
		source{"v3 = 5; v4 = copy v3; " + keeping3, 4, "v3 = 5; " + keeping3, "v3", 0},
		source{"v3 = load 0 v0; v4 = copy v3; ", 4, "", "nowhere", 0},
		source{"v3 = load 0 v0; v4 = copy v3; " + keeping3, 4, "v3 = load 0 v0; " + keeping3, "v3", 0})
}

func TestSums(t *testing.T) {
	for _, n := range []int{0, 6, -6, least, greatest} {
		c := fmt.Sprintf("v4 = %d; ", n)
		expectSources(t,
			// the constant as B
			source{c + "v5 = v0 + v4; ", 5, "", "v0", n},
			source{c + "v5 = v1 + v4; ", 5, "", "entry 1", n},
			source{c + "v5 = v2 + v4; ", 5, "", "nowhere", 0},
			source{c + "v3 = v0 * v0; v5 = v3 + v4; ", 5, "", "nowhere", 0},
			source{c + "v3 = v0 * v0; v5 = v3 + v4; " + keeping3, 5, "v3 = v0 * v0; " + keeping3, "v3", n},
			// as A
			source{c + "v5 = v4 + v0; ", 5, "", "v0", n},
			source{c + "v5 = v4 + v1; ", 5, "", "entry 1", n},
			source{c + "v5 = v4 + v2; ", 5, "", "nowhere", 0},
			source{c + "v3 = v0 * v0; v5 = v4 + v3; " + keeping3, 5, "v3 = v0 * v0; " + keeping3, "v3", n},
			// which stays itself
			source{c + "v5 = v0 + v4; " + keeping4, 5, c + keeping4, "v0", n},
			source{c + "v5 = v4 + v1; " + keeping4, 5, c + keeping4, "entry 1", n},
			// as both
			source{c + "v5 = v4 + v4; ", 5, "", "constant", n + n},
			source{c + "v5 = v4 + v4; " + keeping4, 5, c + keeping4, "v4", n},
			source{c + "v3 = 5; v5 = v4 + v3; ", 5, "", "constant", n + 5},
			source{c + "v3 = 5; v5 = v3 + v4; ", 5, "", "constant", n + 5})
	}
	expectSources(t,
		// B is looked at first, so A is what has to stay.
		source{"v3 = 5; v4 = 6; v5 = v3 + v4; " + keeping3, 5, "v3 = 5; " + keeping3, "v3", 6},
		source{"v3 = 5; v4 = 6; v5 = v3 + v4; " + keeping4, 5, "v4 = 6; " + keeping4, "constant", 11},
		// no constant
		source{"v5 = v0 + v0; ", 5, "", "nowhere", 0},
		source{"v5 = v0 + v1; ", 5, "", "nowhere", 0},
		source{"v5 = v1 + v0; ", 5, "", "nowhere", 0},
		source{"v4 = load 0 v0; v5 = v1 + v4; ", 5, "", "nowhere", 0},
		// A copy of a constant, or a sum of two, is not defined by an OpConst.
		source{"v3 = 5; v4 = copy v3; v5 = v0 + v4; ", 5, "", "nowhere", 0},
		source{"v3 = 5; v4 = copy v3; v5 = v4 + v0; ", 5, "", "nowhere", 0},
		source{"v3 = 5; v4 = v3 + v3; v5 = v4 + v0; ", 5, "", "nowhere", 0},
		source{"v3 = 5; v4 = copy v3; v5 = v4 + v3; ", 5, "", "constant", 10},
		source{"v3 = 5; v4 = copy v3; v5 = v3 + v4; ", 5, "", "constant", 10})
}

func TestDifferences(t *testing.T) {
	for _, n := range []int{0, 6, -6, least, greatest} {
		c := fmt.Sprintf("v4 = %d; ", n)
		expectSources(t,
			source{c + "v5 = v0 - v4; ", 5, "", "v0", -n},
			source{c + "v5 = v1 - v4; ", 5, "", "entry 1", -n},
			source{c + "v5 = v2 - v4; ", 5, "", "nowhere", 0},
			source{c + "v5 = v0 - v4; " + keeping4, 5, c + keeping4, "v0", -n},
			source{c + "v3 = load 0 v0; v5 = v3 - v4; ", 5, "", "nowhere", 0},
			source{c + "v3 = load 0 v0; v5 = v3 - v4; " + keeping3, 5, "v3 = load 0 v0; " + keeping3, "v3", -n},
			// the constant as A only
			source{c + "v5 = v4 - v0; ", 5, "", "nowhere", 0},
			source{c + "v5 = v4 - v1; ", 5, "", "nowhere", 0},
			source{c + "v3 = load 0 v0; v5 = v4 - v3; " + keeping3, 5, "v3 = load 0 v0; " + keeping3, "nowhere", 0},
			// as both
			source{c + "v5 = v4 - v4; ", 5, "", "constant", 0},
			source{c + "v3 = 5; v5 = v4 - v3; ", 5, "", "constant", n - 5},
			source{c + "v3 = 5; v5 = v3 - v4; ", 5, "", "constant", 5 - n},
			source{c + "v3 = 5; v5 = v4 - v3; " + keeping4, 5, c + keeping4, "v4", -5})
	}
	expectSources(t,
		source{"v5 = v0 - v0; ", 5, "", "nowhere", 0},
		source{"v5 = v1 - v0; ", 5, "", "nowhere", 0},
		source{"v3 = 5; v4 = copy v3; v5 = v0 - v4; ", 5, "", "nowhere", 0},
		source{"v3 = 5; v4 = copy v3; v5 = v4 - v3; ", 5, "", "constant", 0},
		source{"v3 = 5; v4 = copy v3; v5 = v3 - v4; ", 5, "", "nowhere", 0})
}

// Of all other operations nothing is known, whatever their operands are.
func TestOtherOperations(t *testing.T) {
	for _, sign := range strings.Fields("* / % & | ^ < <= == !=") {
		for _, n := range []int{0, 1, -1, 5} {
			c := fmt.Sprintf("v4 = %d; ", n)
			for _, o := range []string{"v0 %s v4", "v4 %s v0", "v4 %s v4", "v1 %s v4", "v4 %s v1", "v0 %s v0"} {
				expectSource(t, source{c + "v5 = " + fmt.Sprintf(o, sign) + "; ", 5, "", "nowhere", 0}, 3)
			}
		}
	}
	expectSources(t, source{"v5 = load 0 v0; ", 5, "", "nowhere", 0}, source{"v4 = 1; v5 = load 0 v4; ", 5, "", "nowhere", 0})
}

func TestRows(t *testing.T) {
	row := "v4 = 6; v5 = %s + v4; v6 = copy v5; v7 = 20; v8 = v6 - v7; v10 = v7 + v8; v11 = copy v10; v12 = v11 + v4; v13 = v12 - v7; "
	for at, end := range map[string]source{
		"v0": {want: "v0", more: -8},
		"v1": {want: "entry 1", more: -8},
		"v2": {want: "nowhere"},
		"v4": {want: "constant", more: -2},
	} {
		expectSources(t, source{fmt.Sprintf(row, at), 13, "", end.want, end.more})
	}
	expectSources(t,
		source{"v3 = v0 * v0; " + fmt.Sprintf(row, "v3"), 13, "", "nowhere", 0},
		source{"v3 = v0 * v0; " + fmt.Sprintf(row, "v3") + keeping3, 13, "v3 = v0 * v0; " + keeping3, "v3", -8},
		// The row ends at the first value that stays, though more is known of that.
		source{fmt.Sprintf(row, "v0") + "print v11; ", 13, "v4 = 6; v5 = v0 + v4; v6 = copy v5; v7 = 20; v8 = v6 - v7; v10 = v7 + v8; v11 = copy v10; print v11; ", "v11", -14},
		source{fmt.Sprintf(row, "v0") + "print v6; ", 13, "v4 = 6; v5 = v0 + v4; v6 = copy v5; print v6; ", "v6", -14},
		// Nothing is known of a value in the middle.
		source{fmt.Sprintf(row, "v0") + "v14 = v13 * v4; v15 = v14 + v7; ", 15, "", "nowhere", 0},
		source{fmt.Sprintf(row, "v0") + "v14 = v4 - v13; v15 = v14 + v7; ", 15, "", "nowhere", 0},
		source{fmt.Sprintf(row, "v0") + "v14 = v13 + v13; v15 = v14 - v7; ", 15, "", "nowhere", 0})
}

// A row ends with the new number of a parameter that stays, and with the origin of one that does not, which is not its number.
func TestEndsOfRows(t *testing.T) {
	expectDead(t, "P10.6",
		lines("(4) jump 1(v0 v3 v2 v1)", "(4) v4 = 6; v5 = v0 + v4; v6 = v1 + v4; v7 = v2 - v4; v8 = v4 + v3; bind 0 to v5; bind 1 to v6 + 1; bind 2 to v7 + 1; bind 3 to v8; mark 3; print v1; return v3"),
		lines("(4) jump 1(v3 v1)", "(2) bind 0 to entry 0 + 6; bind 1 to v0 + 7; bind 2 to entry 2 + -5; bind 3 to v1 + 6; mark 3; print v0; return v1"))
}

// Several Binds to one value each get its source; what a number stands for is another thing in each block.
func TestBlocksOfTheirOwn(t *testing.T) {
	expectDead(t, "P10.6",
		lines("(1) v1 = 5; bind 0 to v1; mark 3; branch v0 1() 2(v0)", "(0) v0 = 1; v1 = 6; bind 0 to v1; bind 1 to v1 + 1; mark 4; bind 0 to v1 + 2; mark 5; return v0", "(1) v1 = copy v0; bind 0 to v1 + 3; mark 6; return v0"),
		lines("(1) bind 0 to constant + 5; mark 3; branch v0 1() 2(v0)", "(0) v0 = 1; bind 0 to constant + 6; bind 1 to constant + 7; mark 4; bind 0 to constant + 8; mark 5; return v0", "(1) bind 0 to v0 + 3; mark 6; return v0"))
}

// A row of nearly as many operations as there may be, and as many Binds as fit to the middle of it.
func TestLongestRow(t *testing.T) {
	row := "v1 = 3; v2 = v0 + v1; "
	for v := 3; v <= 5000; v++ {
		row += fmt.Sprintf("v%d = v%d - v1; ", v, v-1)
	}
	from, want := row, ""
	for v := 4100; v < 5000; v++ {
		from += fmt.Sprintf("bind 0 to v%d; ", v)
		want += fmt.Sprintf("bind 0 to v0 + %d; ", 3-3*(v-2))
	}
	expectDead(t, "P10.6", "(1) "+from+"mark 3; return v0", "(1) "+want+"mark 3; return v0")
}
