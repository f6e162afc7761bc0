package dead

import (
	"fmt"
	"testing"
)

// last returns a block that returns a constant and in which the variables 0 to count - 1 are bound to sources.
func last(params int, sources ...string) string {
	text := fmt.Sprintf("(%d) ", params)
	for i, s := range sources {
		text += fmt.Sprintf("bind %d to %s; ", i, s)
	}
	return text + "mark 3; v5 = 7; return v5"
}

// bound returns such a block with two parameters, to which two variables are bound.
const bound = "(2) bind 0 to v0; bind 1 to v1; mark 3; v5 = 7; return v5"

// expectOrigins checks what two variables are bound to in the last block of a code, behind blocks of which no values are needed but those that want has.
func expectOrigins(t *testing.T, from []string, want []string, first, second string) {
	t.Helper()
	expectDead(t, "P10.3", lines(append(from, bound)...), lines(append(want, last(0, first, second))...))
}

func TestOriginsOfArguments(t *testing.T) {
	for _, c := range []struct{ args, first, second string }{
		{"v0 v1", "entry 0", "entry 1"},
		{"v1 v0", "entry 1", "entry 0"},
		{"v2 v1", "entry 2", "entry 1"},
		{"v3 v0", "entry 3", "entry 0"},
		{"v1 v1", "entry 1", "entry 1"},
		{"v0 v8", "entry 0", "nowhere"},
		{"v8 v0", "nowhere", "entry 0"},
	} {
		for _, definition := range []string{"v8 = 1", "v8 = v0 + v1", "v7 = 0; v8 = v0 + v7", "v7 = 1; v8 = v7 * v0", "v8 = v0 / v0", "v8 = load 0 v0", "v8 = v1 - v0", "v7 = 4; v8 = copy v7"} {
			from := fmt.Sprintf("object 0 0 4\n(4) %s; jump 1(%s)", definition, c.args)
			expectOrigins(t, []string{from}, []string{"object 0 0 4\n(4) jump 1()"}, c.first, c.second)
		}
	}
}

func TestOriginsOfCopies(t *testing.T) {
	for _, c := range []struct{ ops, args, first, second string }{
		{"v8 = copy v0", "v8 v1", "entry 0", "entry 1"},
		{"v8 = copy v1; v9 = copy v8; v7 = copy v9", "v7 v0", "entry 1", "entry 0"},
		{"v8 = copy v1; v9 = copy v0", "v8 v9", "entry 1", "entry 0"},
		{"v8 = copy v0; v9 = copy v8", "v8 v9", "entry 0", "entry 0"},
		{"v8 = 1; v9 = copy v8", "v9 v1", "nowhere", "entry 1"},
		{"v8 = v0 + v1; v9 = copy v8; v7 = copy v9", "v0 v7", "entry 0", "nowhere"},
	} {
		expectOrigins(t, []string{fmt.Sprintf("(2) %s; jump 1(%s)", c.ops, c.args)}, []string{"(2) jump 1()"}, c.first, c.second)
	}
	// A value that is copied, and the number of a value that another block defines or has as a parameter.
	expectOrigins(t,
		[]string{"(3) v3 = v0 + v1; jump 1(v2 v3)", "(2) v3 = copy v0; v2 = copy v3; v4 = copy v1; jump 2(v2 v4)"},
		[]string{"(3) jump 1()", "(0) jump 2()"}, "entry 2", "nowhere")
}

func TestOriginsThroughBlocks(t *testing.T) {
	expectOrigins(t,
		[]string{"(2) jump 1(v1 v0)", "(2) jump 2(v1 v0)", "(2) v2 = copy v1; v3 = copy v0; jump 3(v2 v3)", "(2) jump 4(v0 v1)"},
		[]string{"(2) jump 1()", "(0) jump 2()", "(0) jump 3()", "(0) jump 4()"}, "entry 1", "entry 0")
	// A block in between has more parameters, and some are lost on the way.
	expectOrigins(t,
		[]string{"(3) v3 = 4; jump 1(v3 v2 v1 v0)", "(4) jump 2(v2 v0 v1)", "(3) jump 3(v2 v1)"},
		[]string{"(3) jump 1()", "(0) jump 2()", "(0) jump 3()"}, "entry 2", "nowhere")
	// The blocks stand in another order than the ways.
	expectDead(t, "P10.3",
		lines("(2) jump 3(v1 v0)", last(2, "v0", "v1"), "(2) jump 1(v1 v0)", "(2) v2 = copy v0; jump 2(v2 v1)"),
		lines("(2) jump 3()", last(0, "entry 0", "entry 1"), "(0) jump 1()", "(0) jump 2()"))
	// The block of a parameter that is needed.
	expectDead(t, "P10.3",
		lines("(2) jump 1(v1 v0)", "(2) bind 0 to v0; bind 1 to v1; mark 2; print v1; jump 2(v1 v0)", "(2) bind 0 to v0; bind 1 to v1; mark 3; v2 = 1; return v2"),
		lines("(2) jump 1(v0)", "(1) bind 0 to entry 1; bind 1 to v0; mark 2; print v0; jump 2()", "(0) bind 0 to entry 0; bind 1 to entry 1; mark 3; v2 = 1; return v2"))
}

func TestEdgesThatDisagree(t *testing.T) {
	for _, c := range []struct{ one, other, first, second string }{
		{"v0 v1", "v0 v1", "entry 0", "entry 1"},
		{"v0 v1", "v1 v1", "nowhere", "entry 1"},
		{"v1 v1", "v0 v1", "nowhere", "entry 1"},
		{"v0 v1", "v1 v0", "nowhere", "nowhere"},
		{"v0 v9", "v0 v0", "entry 0", "nowhere"},
		{"v0 v0", "v0 v9", "entry 0", "nowhere"},
		{"v8 v1", "v0 v1", "entry 0", "entry 1"},
		{"v8 v0", "v1 v8", "nowhere", "entry 0"},
	} {
		branch := fmt.Sprintf("(2) v8 = copy v0; v9 = 5; branch v1 1(%s) 1(%s)", c.one, c.other)
		expectOrigins(t, []string{branch}, []string{"(2) branch v1 1() 1()"}, c.first, c.second)
	}
	// Jumps of several blocks, the first, the second or the third of which disagrees.
	for i := range 3 {
		args := []string{"v1 v0", "v1 v0", "v1 v0"}
		args[i] = "v0 v0"
		expectDead(t, "P10.3",
			lines("(2) branch v0 1(v0 v1) 2(v0 v1)", fmt.Sprintf("(2) jump 4(%s)", args[0]), "(2) branch v0 3(v0 v1) 5(v0 v1)",
				fmt.Sprintf("(2) jump 4(%s)", args[1]), bound, fmt.Sprintf("(2) jump 4(%s)", args[2])),
			lines("(2) branch v0 1() 2(v0)", "(0) jump 4()", "(1) branch v0 3() 5()",
				"(0) jump 4()", last(0, "nowhere", "entry 0"), "(0) jump 4()"))
	}
}

// In a loop only the greatest assignment has origins: a parameter that is handed to itself has the origin that it comes with.
func TestOriginsInLoops(t *testing.T) {
	for _, c := range []struct{ first, again, one, other string }{
		{"v0 v1", "v0 v1", "entry 0", "entry 1"},
		{"v1 v0", "v0 v1", "entry 1", "entry 0"},
		{"v0 v0", "v0 v1", "entry 0", "entry 0"},
		// swapped
		{"v0 v1", "v1 v0", "nowhere", "nowhere"},
		{"v0 v0", "v1 v0", "entry 0", "entry 0"},
		// one handed to both
		{"v0 v1", "v0 v0", "entry 0", "nowhere"},
		{"v0 v1", "v1 v1", "nowhere", "entry 1"},
		{"v1 v1", "v0 v0", "entry 1", "entry 1"},
		// something else on the way to the loop, or on the way back
		{"v8 v1", "v0 v1", "nowhere", "entry 1"},
		{"v0 v1", "v8 v1", "nowhere", "entry 1"},
		{"v8 v1", "v1 v0", "nowhere", "nowhere"},
		{"v0 v1", "v0 v8", "entry 0", "nowhere"},
		// a copy
		{"v0 v1", "v9 v1", "entry 0", "entry 1"},
	} {
		first, again := "(2) v8 = 1; jump 1("+c.first+" v0)", "(3) v8 = 1; v9 = copy v0; print v2; branch v2 1("+c.again+" v2) 2(v0 v1)"
		expectOrigins(t, []string{first, again}, []string{"(2) jump 1(v0)", "(1) print v0; branch v0 1(v0) 2()"}, c.one, c.other)
		// The loop has two blocks.
		head, back := "(3) print v2; branch v2 2(v0 v1 v2) 3(v0 v1)", "(3) v8 = 1; v9 = copy v0; print v2; jump 1("+c.again+" v2)"
		expectOrigins(t, []string{first, head, back}, []string{"(2) jump 1(v0)", "(1) print v0; branch v0 2(v0) 3()", "(1) print v0; jump 1(v0)"}, c.one, c.other)
	}
}

// A loop within another one, which changes nothing, or changes what the outer one hands on.
func TestOriginsInLoopsWithinLoops(t *testing.T) {
	for _, c := range []struct{ inner, outer, one, other string }{
		{"v0 v1", "v0 v1", "entry 0", "entry 1"},
		{"v1 v0", "v0 v1", "nowhere", "nowhere"},
		{"v0 v1", "v1 v0", "nowhere", "nowhere"},
		{"v0 v0", "v0 v1", "entry 0", "nowhere"},
		{"v0 v1", "v0 v0", "entry 0", "nowhere"},
	} {
		expectOrigins(t,
			[]string{"(2) jump 1(v0 v1 v0)", "(3) jump 2(v0 v1 v2)", "(3) branch v2 2(" + c.inner + " v2) 3(v0 v1 v2)", "(3) branch v2 1(" + c.outer + " v2) 4(v0 v1)"},
			[]string{"(2) jump 1(v0)", "(1) jump 2(v0)", "(1) branch v0 2(v0) 3(v0)", "(1) branch v0 1(v0) 4()"}, c.one, c.other)
	}
	// A row of parameters, each of which gets the one behind it: what the last one has goes through all of them.
	for last100, want := range map[string]string{"v0": "entry 0", "v1": "nowhere"} {
		first, again := "", ""
		for i := range 99 {
			first += "v0 "
			again += fmt.Sprintf("v%d ", i+2)
		}
		expectDead(t, "P10.3",
			lines("(2) jump 1(v1 "+first+last100+")", "(101) branch v0 1(v0 "+again+"v100) 2(v1)", last(1, "v0")),
			lines("(2) jump 1(v1)", "(1) branch v0 1(v0) 2()", last(0, want)))
	}
}

// The result of a call, or the thrown value, has no origin; the parameters behind it may have one.
func TestOriginsBehindCalls(t *testing.T) {
	expectDead(t, "P10.3",
		lines("(2) call 0(v0 v1) 1(v1 v0) 2(v0 v1)", "(3) bind 0 to v1; bind 1 to v2; mark 3; jump 3(v0 v1 v2)", "(3) bind 0 to v1; bind 1 to v2; mark 4; jump 4(v0 v1 v2)",
			last(3, "v0", "v1", "v2"), last(3, "v0", "v1", "v2")),
		lines("(2) call 0(v0 v1) 1() 2()", "(1) bind 0 to entry 1; bind 1 to entry 0; mark 3; jump 3()", "(1) bind 0 to entry 0; bind 1 to entry 1; mark 4; jump 4()",
			last(0, "nowhere", "entry 1", "entry 0"), last(0, "nowhere", "entry 0", "entry 1")))
	// Both edges lead to one block.
	expectDead(t, "P10.3",
		lines("(2) call 0(v0 v1) 1(v0 v1) 1(v0 v0)", "(3) jump 2(v0 v1 v2)", last(3, "v0", "v1", "v2")),
		lines("(2) call 0(v0 v1) 1() 1()", "(1) jump 2()", last(0, "nowhere", "entry 0", "nowhere")))
	// A jump leads there too, with a parameter of the function.
	for call, want := range map[string]string{"call 0(v0) 3(v0) 4()": "call 0(v0) 3() 4()", "call 0(v0) 4() 3(v0)": "call 0(v0) 4() 3()"} {
		expectDead(t, "P10.3",
			lines("(1) branch v0 1(v0) 2(v0)", "(1) "+call, "(1) jump 3(v0 v0)", "(2) jump 5(v0 v1)", "(1) throw v0", last(2, "v0", "v1")),
			lines("(1) branch v0 1(v0) 2(v0)", "(1) "+want, "(1) jump 3(v0)", "(1) jump 5()", "(1) throw v0", last(0, "nowhere", "entry 0")))
	}
	// What comes back to the block of the call.
	expectDead(t, "P10.3",
		lines("(2) jump 1(v0 v1)", "(2) call 0(v0 v1) 2(v1)", "(2) branch v1 1(v0 v1) 3(v0 v1)", last(2, "v0", "v1")),
		lines("(2) jump 1(v0 v1)", "(2) call 0(v0 v1) 2(v1)", "(2) branch v1 1(v0 v1) 3()", last(0, "nowhere", "entry 1")))
}
