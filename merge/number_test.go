package merge

import (
	"fmt"
	"testing"

	"debugger/api"
)

func TestParameters(t *testing.T) {
	// none
	expectMerged(t, lines("(2) v2 = v0 - v1; jump 1()", "(0) v0 = 7; v1 = v0 + v0; return v1"), "(2) v2 = v0 - v1; v3 = 7; v4 = v3 + v3; return v4")
	expectMerged(t, lines("(0) jump 1()", "(0) v0 = 7; return v0"), "(0) v0 = 7; return v0")
	// used once, twice, not at all
	expectMerged(t, lines("(2) v2 = v0 - v1; jump 1(v2 v0 v1)", "(3) v3 = v1 * v1; v4 = v3 + v0; return v4"), "(2) v2 = v0 - v1; v3 = v0 * v0; v4 = v3 + v2; return v4")
	expectMerged(t, lines("(1) jump 1(v0)", "(1) v1 = 3; return v1"), "(1) v1 = 3; return v1")
	// the same value for several
	expectMerged(t, lines("(1) v1 = 1; jump 1(v1 v0 v1 v1)", "(4) v4 = v0 - v2; v5 = v1 * v3; v6 = v4 % v5; tail 1(v0 v1 v2 v3)"), "(1) v1 = 1; v2 = v1 - v1; v3 = v0 * v1; v4 = v2 % v3; tail 1(v1 v0 v1 v1)")
}

// A number is replaced once: that of an argument may be that of another parameter, or of a value that gets a new number.
func TestReplacedOnce(t *testing.T) {
	expectMerged(t, lines("(2) jump 1(v1 v0)", "(2) v2 = v0 - v1; return v2"), "(2) v2 = v1 - v0; return v2")
	expectMerged(t, lines("(3) jump 1(v1 v2 v0)", "(3) v3 = v0 - v1; v4 = v2 - v3; jump 2(v2 v0 v1)", "(3) v3 = v0 * v1; v4 = v2 % v3; return v4"), "(3) v3 = v1 - v2; v4 = v0 - v3; v5 = v0 * v1; v6 = v2 % v5; return v6")
	expectMerged(t, lines("(1) v1 = 1; v2 = 2; v3 = 3; jump 1(v3 v2)", "(2) v2 = v1 - v0; v3 = v0 - v2; v4 = v3 - v1; v5 = v2 - v4; return v5"), "(1) v1 = 1; v2 = 2; v3 = 3; v4 = v2 - v3; v5 = v3 - v4; v6 = v5 - v2; v7 = v4 - v6; return v7")
	// The values of the first block stay.
	expectMerged(t, lines("(1) bind 0 to v3; v3 = 5; v2 = v3 - v0; print v2; jump 1(v2 v3)", "(2) v3 = v0 + v1; v2 = v3 - v1; return v2"), "(1) bind 0 to v3; v3 = 5; v2 = v3 - v0; print v2; v4 = v2 + v3; v5 = v4 - v3; return v5")
}

func TestNewNumbers(t *testing.T) {
	// The greatest number of the first block is that of a parameter.
	expectMerged(t, lines("(1) jump 1(v0)", "(1) v5 = v0 + v0; return v5"), "(1) v1 = v0 + v0; return v1")
	expectMerged(t, lines("(4) print v1; mark 3; jump 1()", "(0) v2 = 6; v0 = 7; v1 = v0 - v2; return v1"), "(4) print v1; mark 3; v4 = 6; v5 = 7; v6 = v5 - v4; return v6")
	// The second block, or both of them, define no values.
	expectMerged(t, lines("(1) v7 = 1; jump 1(v7)", "(1) print v0; return v0"), "(1) v7 = 1; print v7; return v7")
	expectMerged(t, lines("(2) jump 1(v1)", "(1) return v0"), "(2) return v1")
	// There are gaps, and the greatest number is not the last one.
	expectMerged(t, lines("(1) v9 = 1; v4 = 2; jump 1(v4)", "(1) v20 = 3; v6 = v20 + v0; v7 = v6 - v20; return v7"), "(1) v9 = 1; v4 = 2; v10 = 3; v11 = v10 + v4; v12 = v11 - v10; return v12")
	expectMerged(t, lines("(0) v3 = 1; jump 1()", "(0) v30 = 2; jump 2(v30)", "(1) v6 = 3; v2 = v0 - v6; return v2"), "(0) v3 = 1; v4 = 2; v5 = 3; v6 = v4 - v5; return v6")
}

// values returns so many constants, numbered from one on, as a text.
func values(from, count int) string {
	text := ""
	for v := range count {
		text += fmt.Sprintf("v%d = %d; ", from+v, v)
	}
	return text
}

func TestGreatestNumber(t *testing.T) {
	expectMerged(t, lines("(1) v9997 = 1; jump 1(v9997)", "(1) v1 = 2; v2 = v0 + v1; return v2"), "(1) v9997 = 1; v9998 = 2; v9999 = v9997 + v9998; return v9999")
	expectKept(t, lines("(1) v9998 = 1; jump 1(v9998)", "(1) v1 = 2; v2 = v0 + v1; return v2"))
	expectKept(t, lines("(0) v9999 = 1; jump 1()", "(0) v0 = 2; return v0"))
	// It is the greatest number of the first block that counts, however few values there are, and how many the second one defines.
	expectKept(t, lines("(1) v9999 = 1; v1 = 2; jump 1(v1)", "(1) v1 = 2; return v1"))
	expectMerged(t, lines("(1) jump 1(v0)", "(1) v9999 = 1; v9998 = v0 - v9999; return v9998"), "(1) v1 = 1; v2 = v0 - v1; return v2")
	expectMerged(t, lines("(1) v9999 = 1; jump 1(v9999)", "(1) print v0; mark 3; return v0"), "(1) v9999 = 1; print v9999; mark 3; return v9999")
	for _, count := range []int{100, 101} {
		first, rest := "(0) v9899 = 1; ", values(0, count)
		if count == 100 {
			expectMerged(t, lines(first+"jump 1()", "(0) "+rest+"return v99"), first+values(9900, 100)+"return v9999")
		} else {
			expectKept(t, lines(first+"jump 1()", "(0) "+rest+"return v100"))
		}
	}
}

// A join that has no numbers left does not keep others back.
func TestOtherJoins(t *testing.T) {
	expectMerged(t,
		lines("(1) v9999 = 1; jump 1(v9999)", "(1) v1 = 2; branch v1 2() 4()", "(0) v0 = 3; jump 3(v0)", "(1) v1 = v0 + v0; return v1", "(0) v0 = 6; return v0"),
		lines("(1) v9999 = 1; jump 1(v9999)", "(1) v1 = 2; branch v1 2() 3()", "(0) v0 = 3; v1 = v0 + v0; return v1", "(0) v0 = 6; return v0"))
	// Of the chain 0, 1, 2, 3 the first two are joined, and the last two.
	expectMerged(t,
		lines("(1) v9999 = 1; jump 1(v9999)", "(1) print v0; jump 2(v0)", "(1) v1 = 2; jump 3(v1)", "(1) v1 = v0 - v0; return v1"),
		lines("(1) v9999 = 1; print v9999; jump 1(v9999)", "(1) v1 = 2; v2 = v1 - v1; return v2"))
}

// All blocks of a function may become one.
func TestLongChain(t *testing.T) {
	up, down, want := []string{}, []string{}, "(1) "
	for b := range api.MaxBlocks {
		up = append(up, fmt.Sprintf("(1) v1 = v0 + v0; jump %d(v1)", b+1))
		down = append(down, fmt.Sprintf("(1) v1 = v0 + v0; jump %d(v1)", b-1))
		want += fmt.Sprintf("v%d = v%d + v%d; ", b+1, b, b)
	}
	last := api.MaxBlocks - 1
	up[last], down[1] = "(1) v1 = v0 + v0; return v1", "(1) v1 = v0 + v0; return v1"
	down[0] = fmt.Sprintf("(1) v1 = v0 + v0; jump %d(v1)", last)
	want += fmt.Sprintf("return v%d", api.MaxBlocks)
	expectMerged(t, lines(up...), want)
	expectMerged(t, lines(down...), want)
}
