package inline

import "testing"

const rest = "(1) return v0"

// The latest Bind of each context, variable and piece ahead of the last Mark or At counts.
func TestBindings(t *testing.T) {
	contexts := lines("context 0 7 1", "context 0 8 1")
	expectInlined(t, "P11.2",
		lines(contexts, "context 0 5 1",
			"(1) bind 3.1 to constant + 1; bind 3 to constant + 2; bind 2 in 2 to constant + 3; bind 3.1 to constant + 4; mark 4; "+
				"bind 0 in 2 to constant + 5; bind 0 in 1 to constant + 6; bind 2.3 to constant + 7; bind 3 in 1 to constant + 8; bind 2 in 2 to nowhere; at 5; "+
				"bind 2.3 to constant + 9; bind 1 to constant + 10; jump 2(v0)",
			rest,
			"(1) bind 2.3 to constant + 7; bind 3 to constant + 2; bind 3.1 to constant + 4; bind 0 in 1 to constant + 6; bind 3 in 1 to constant + 8; "+
				"bind 0 in 2 to constant + 5; bind 2 in 2 to nowhere; v1 = 1; v2 = v0 + v1; jump 1(v2)"),
		lines(contexts,
			"(1) bind 3.1 to constant + 1; bind 3 to constant + 2; bind 2 in 2 to constant + 3; bind 3.1 to constant + 4; mark 4; "+
				"bind 0 in 2 to constant + 5; bind 0 in 1 to constant + 6; bind 2.3 to constant + 7; bind 3 in 1 to constant + 8; bind 2 in 2 to nowhere; at 5; "+
				"bind 2.3 to constant + 9; bind 1 to constant + 10; call 1(v0) 1()",
			rest),
		next)
	expectInlined(t, "P11.2",
		lines("context 0 5 1", "(1) mark 5; bind 0 to v0; jump 2(v0)", rest, "(1) v1 = 1; v2 = v0 + v1; jump 1(v2)"),
		lines("(1) mark 5; bind 0 to v0; call 1(v0) 1()", rest),
		next)
	expectInlined(t, "P11.2",
		lines("context 0 6 1", "(1) bind 0 to v0; mark 5; at 6; jump 2(v0 v0)", rest, "(2) bind 0 to v1; v2 = 1; v3 = v0 + v2; jump 1(v3)"),
		lines("(1) bind 0 to v0; mark 5; at 6; call 1(v0) 1()", rest),
		next)
}

// The order of variables and pieces is that of their numbers, also of those with two digits.
func TestOrderOfBindings(t *testing.T) {
	expectInlined(t, "P11.2",
		lines("context 0 5 1",
			"(1) bind 10 to constant; bind 9.3 to constant; bind 23 to constant; bind 9 to constant; bind 2 to constant; mark 5; jump 2(v0)", rest,
			"(1) bind 2 to constant; bind 9 to constant; bind 9.3 to constant; bind 10 to constant; bind 23 to constant; v1 = 1; v2 = v0 + v1; jump 1(v2)"),
		lines("(1) bind 10 to constant; bind 9.3 to constant; bind 23 to constant; bind 9 to constant; bind 2 to constant; mark 5; call 1(v0) 1()", rest),
		next)
}

// With each kind of source there is a Bind at the beginning of each added block.
func TestSources(t *testing.T) {
	expectInlined(t, "P11.3",
		lines("context 0 5 1",
			"(2) bind 0 to nowhere; bind 1 to constant + -4; bind 2 to entry 1 + 3; bind 3 to v1 + 9; bind 4 to v0; mark 5; jump 2(v0 v1 v0)", rest,
			"(3) bind 0 to nowhere; bind 1 to constant + -4; bind 2 to entry 1 + 3; bind 3 to v1 + 9; bind 4 to v2; jump 3(v0 v1 v2)",
			"(3) bind 0 to nowhere; bind 1 to constant + -4; bind 2 to entry 1 + 3; bind 3 to v1 + 9; bind 4 to v2; jump 1(v0)"),
		lines("(2) bind 0 to nowhere; bind 1 to constant + -4; bind 2 to entry 1 + 3; bind 3 to v1 + 9; bind 4 to v0; mark 5; call 1(v0) 1()", rest),
		lines("(1) jump 1(v0)", "(1) return v0"))
}

// The passed values are those of both edges and of the bindings, in this order, each once.
func TestPassedValues(t *testing.T) {
	expectInlined(t, "P11.2",
		lines("context 0 5 1",
			"(3) v3 = 8; v4 = 9; v5 = 7; bind 2 to v3; bind 1 to v2; bind 3 to v5 + 1; bind 0 to v1; mark 5; jump 3(v0 v4 v0 v5 v1 v2 v3)",
			"(4) return v3",
			"(5) return v4",
			"(7) bind 0 to v4; bind 1 to v5; bind 2 to v6; bind 3 to v3 + 1; v7 = 1; v8 = v0 + v7; jump 1(v8 v1 v2 v1)"),
		lines("(3) v3 = 8; v4 = 9; v5 = 7; bind 2 to v3; bind 1 to v2; bind 3 to v5 + 1; bind 0 to v1; mark 5; call 1(v0) 1(v4 v0 v4) 2(v5 v4 v5 v0)",
			"(4) return v3",
			"(5) return v4"),
		next)
	// The edge that leads nowhere passes nothing.
	expectInlined(t, "P11.2",
		lines("context 0 5 1",
			"(2) mark 5; v2 = 6; jump 3(v1 v2 v0)", "(3) return v1", "(2) return v1",
			"(3) v3 = 1; v4 = v0 + v3; jump 1(v4 v1 v2)"),
		lines("(2) mark 5; v2 = 6; call 1(v1) 1(v2 v0)", "(3) return v1", "(2) return v1"),
		next)
	// The arguments of the call are not passed as such.
	expectInlined(t, "P11.2",
		lines("context 0 5 1", "(2) mark 5; jump 2(v1)", rest, "(1) v1 = 1; v2 = v0 + v1; jump 1(v2)"),
		lines("(2) mark 5; call 1(v1) 1()", rest),
		next)
}

// A binding passes a value that is defined ahead of the Mark or At; behind it, an edge alone does.
func TestLateValues(t *testing.T) {
	expectInlined(t, "P11.2",
		lines("context 0 5 1",
			"(1) bind 0 to v2; bind 1 to v3 + 4; bind 2 to v4 + 2; bind 3 to v2 + 1; v2 = copy v0; mark 5; v3 = 4; v4 = 5; jump 2(v0 v4 v2)",
			"(2) return v1",
			"(3) bind 0 to v2; bind 1 to nowhere; bind 2 to v1 + 2; bind 3 to v2 + 1; v3 = 1; v4 = v0 + v3; jump 1(v4 v1)"),
		lines("(1) bind 0 to v2; bind 1 to v3 + 4; bind 2 to v4 + 2; bind 3 to v2 + 1; v2 = copy v0; mark 5; v3 = 4; v4 = 5; call 1(v0) 1(v4)",
			"(2) return v1"),
		next)
	// What is defined between two of them is ahead of the last one.
	expectInlined(t, "P11.2",
		lines("context 0 6 1",
			"(1) bind 0 to v1; mark 5; v1 = 4; at 6; jump 2(v0 v1)", rest,
			"(2) bind 0 to v1; v2 = 1; v3 = v0 + v2; jump 1(v3)"),
		lines("(1) bind 0 to v1; mark 5; v1 = 4; at 6; call 1(v0) 1()", rest),
		next)
	// Also the second edge passes a value that is defined behind the Mark.
	expectInlined(t, "P11.2",
		lines("context 0 5 1",
			"(1) bind 0 to v1; mark 5; v1 = 4; jump 3(v0 v1)", rest, "(2) return v1",
			"(2) bind 0 to v1; v2 = 1; v3 = v0 + v2; jump 1(v3)"),
		lines("(1) bind 0 to v1; mark 5; v1 = 4; call 1(v0) 1() 2(v1)", rest, "(2) return v1"),
		next)
}

// A value that two pieces are bound to is passed once, and a Bind that counts no more passes nothing.
func TestRepeatedValues(t *testing.T) {
	expectInlined(t, "P11.2",
		lines("context 0 5 1",
			"(3) bind 0 to v1; bind 1 to v2; bind 2 to v1 + 1; bind 1 to v1 + 2; mark 5; jump 2(v0 v1)", rest,
			"(2) bind 0 to v1; bind 1 to v1 + 2; bind 2 to v1 + 1; v2 = 1; v3 = v0 + v2; jump 1(v3)"),
		lines("(3) bind 0 to v1; bind 1 to v2; bind 2 to v1 + 1; bind 1 to v1 + 2; mark 5; call 1(v0) 1()", rest),
		next)
}
