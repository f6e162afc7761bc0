package fold

import "testing"

func TestBinds(t *testing.T) {
	for from, want := range map[string]string{
		// a parameter, and values that are known to be nothing
		"bind 0 to v0; bind 1.2 in 1 to v1 + 5":                  "bind 0 to v0; bind 1.2 in 1 to v1 + 5",
		"v2 = v0 + v1; bind 0 to v2 + -1":                        "v2 = v0 + v1; bind 0 to v2 + -1",
		"v2 = load 0 v0; bind 0 to v2":                           "v2 = load 0 v0; bind 0 to v2",
		"v2 = copy v1; bind 0.3 in 1 to v2 + 4; bind 1 to v0":    "v2 = copy v1; bind 0.3 in 1 to v1 + 4; bind 1 to v0",
		"v2 = v0 * v1; v3 = copy v2; v4 = copy v3; bind 0 to v4": "v2 = v0 * v1; v3 = copy v2; v4 = copy v2; bind 0 to v2",
		// constants
		"v2 = 7; bind 0.1 in 1 to v2":                       "v2 = 7; bind 0.1 in 1 to constant + 7",
		"v2 = 7; bind 0 to v2 + -7":                         "v2 = 7; bind 0 to constant",
		"v2 = 7; v3 = copy v2; v4 = v3 + v2; bind 0 to v4":  "v2 = 7; v3 = 7; v4 = 14; bind 0 to constant + 14",
		"v2 = 9223372036854775807; bind 0 to v2 + 1":        "v2 = 9223372036854775807; bind 0 to constant + -9223372036854775808",
		"v2 = -9223372036854775808; bind 0 to v2 + -1":      "v2 = -9223372036854775808; bind 0 to constant + 9223372036854775807",
		"v2 = 0; v3 = v1 * v2; bind 0 to v3 + 6":            "v2 = 0; v3 = 0; bind 0 to constant + 6",
		"v2 = 0; v3 = v1 ^ v2; bind 0 to v3 + 6":            "v2 = 0; v3 = copy v1; bind 0 to v1 + 6",
		"v2 = 3; v3 = 0; v4 = v2 / v3; bind 0 to v4 + 6":    "v2 = 3; v3 = 0; v4 = v2 / v3; bind 0 to v4 + 6",
		"v3 = 1; mark 2; bind 0 to v3; print v3; at 3 in 1": "v3 = 1; mark 2; bind 0 to constant + 1; print v3; at 3 in 1",
		"v3 = 1; bind 0 to v3; bind 0 to v3; bind 0 to v0":  "v3 = 1; bind 0 to constant + 1; bind 0 to constant + 1; bind 0 to v0",
		// what is defined behind the Bind
		"bind 0 to v2; v2 = 7":                             "bind 0 to v2; v2 = 7",
		"bind 0 to v2 + 3; v2 = copy v1; bind 1 to v2 + 3": "bind 0 to v2 + 3; v2 = copy v1; bind 1 to v1 + 3",
		"bind 0 to v3; v2 = 7; bind 0 to v3; v3 = copy v2": "bind 0 to v3; v2 = 7; bind 0 to v3; v3 = 7",
		"bind 0 to v4; v2 = 0; v4 = v2 + v1; bind 0 to v4": "bind 0 to v4; v2 = 0; v4 = copy v1; bind 0 to v1",
		// the other kinds, whose Val is no value
		"v2 = 7; bind 0 to nowhere; bind 1 to constant":     "v2 = 7; bind 0 to nowhere; bind 1 to constant",
		"v2 = 7; bind 0 to constant + 5; bind 1 to entry 1": "v2 = 7; bind 0 to constant + 5; bind 1 to entry 1",
		"v2 = copy v1; bind 0 to entry 1 + 2; bind 0 to v2": "v2 = copy v1; bind 0 to entry 1 + 2; bind 0 to v1",
	} {
		expectOps(t, "P8.2", from, want)
	}
	// Only values have representatives: the parameter of the function has the number of one here.
	expectCode(t, "P8.2",
		lines("(2) jump 1()", "(0) v2 = 5; v0 = copy v2; v1 = load 0 v2; v3 = copy v1; v4 = 0; bind 0 to entry 0 + 1; bind 1 to entry 1; return v3", "object 0 0 1"),
		lines("(2) jump 1()", "(0) v2 = 5; v0 = 5; v1 = load 0 v2; v3 = copy v1; v4 = 0; bind 0 to entry 0 + 1; bind 1 to entry 1; return v1", "object 0 0 1"))
}

// rest is what the tests of terminators have behind the first block.
const rest = "\n(0) v0 = 1; return v0\n(2) return v1\n(3) throw v2\n(1) tail 5(v0)"

func TestTerminators(t *testing.T) {
	copies := "(2) v2 = copy v0; v3 = copy v1; v4 = v2 + v3; v5 = copy v4; "
	same := "(2) v2 = copy v0; v3 = copy v1; v4 = v0 + v1; v5 = copy v4; "
	for from, want := range map[string]string{
		"jump 1()":                                  "jump 1()",
		"jump 2(v2 v3)":                             "jump 2(v0 v1)",
		"jump 2(v5 v2)":                             "jump 2(v4 v0)",
		"branch v2 2(v3 v2) 3(v5 v3 v0)":            "branch v0 2(v1 v0) 3(v4 v1 v0)",
		"branch v4 2(v1 v2) 1()":                    "branch v4 2(v1 v0) 1()",
		"branch v5 1() 3(v3 v5 v3)":                 "branch v4 1() 3(v1 v4 v1)",
		"call 3() 4()":                              "call 3() 4()",
		"call 3(v2 v3 v5 v4) 2(v5) 3(v2 v3)":        "call 3(v0 v1 v4 v4) 2(v4) 3(v0 v1)",
		"call 7(v3) 3(v3 v1)":                       "call 7(v1) 3(v1 v1)",
		"call 0() 2(v0) 2(v2)":                      "call 0() 2(v0) 2(v0)",
		"return v3":                                 "return v1",
		"return v5":                                 "return v4",
		"throw v2":                                  "throw v0",
		"throw v5":                                  "throw v4",
		"tail 2(v5 v2 v3 v0)":                       "tail 2(v4 v0 v1 v0)",
		"tail 6()":                                  "tail 6()",
		"v6 = v5 - v3; return v6":                   "v6 = v4 - v1; return v6",
		"v6 = 4; v7 = copy v6; return v7":           "v6 = 4; v7 = 4; return v7",
		"v6 = 4; v7 = copy v6; throw v6":            "v6 = 4; v7 = 4; throw v6",
		"v6 = 4; v7 = copy v6; tail 1(v7 v6)":       "v6 = 4; v7 = 4; tail 1(v7 v6)",
		"v6 = 4; v7 = copy v6; jump 2(v7 v6)":       "v6 = 4; v7 = 4; jump 2(v7 v6)",
		"v6 = 4; v7 = copy v6; call 1(v7) 2(v6)":    "v6 = 4; v7 = 4; call 1(v7) 2(v6)",
		"v6 = 0; v7 = v6 + v3; call 0() 2(v7) 4()":  "v6 = 0; v7 = copy v1; call 0() 2(v1) 4()",
		"v6 = 0; v7 = v3 * v6; branch v4 4(v7) 1()": "v6 = 0; v7 = 0; branch v4 4(v7) 1()",
	} {
		expectCode(t, "P8.2", copies+from+rest, same+want+rest)
	}
}

func TestBranches(t *testing.T) {
	for from, want := range map[string]string{
		"v2 = 0; branch v2 2(v0 v1) 1()":                          "v2 = 0; jump 1()",
		"v2 = 0; branch v2 1() 3(v0 v1 v2)":                       "v2 = 0; jump 3(v0 v1 v2)",
		"v2 = 1; branch v2 2(v0 v1) 1()":                          "v2 = 1; jump 2(v0 v1)",
		"v2 = 1; branch v2 1() 2(v0 v1)":                          "v2 = 1; jump 1()",
		"v2 = -1; branch v2 2(v0 v1) 1()":                         "v2 = -1; jump 2(v0 v1)",
		"v2 = 2; branch v2 2(v0 v1) 1()":                          "v2 = 2; jump 2(v0 v1)",
		"v2 = -9223372036854775808; branch v2 2(v0 v1) 1()":       "v2 = -9223372036854775808; jump 2(v0 v1)",
		"v2 = 9223372036854775807; branch v2 2(v0 v1) 1()":        "v2 = 9223372036854775807; jump 2(v0 v1)",
		"v2 = 4; v3 = 5; v4 = v2 < v3; branch v4 1() 4(v0)":       "v2 = 4; v3 = 5; v4 = 1; jump 1()",
		"v2 = 4; v3 = 5; v4 = v3 < v2; branch v4 1() 4(v0)":       "v2 = 4; v3 = 5; v4 = 0; jump 4(v0)",
		"v2 = 0; v3 = v1 & v2; v4 = copy v3; branch v4 4(v1) 1()": "v2 = 0; v3 = 0; v4 = 0; jump 1()",
		"v2 = copy v1; v3 = 7; branch v3 4(v2) 2(v2 v2)":          "v2 = copy v1; v3 = 7; jump 4(v1)",
		"v2 = copy v1; v3 = 0; branch v3 4(v0) 2(v2 v0)":          "v2 = copy v1; v3 = 0; jump 2(v1 v0)",
		"v2 = 3; branch v2 4(v0) 4(v1)":                           "v2 = 3; jump 4(v0)",
		"v2 = 0; branch v2 4(v0) 4(v1)":                           "v2 = 0; jump 4(v1)",
		"v2 = 0; v3 = v2 / v2; branch v3 1() 4(v1)":               "v2 = 0; v3 = v2 / v2; branch v3 1() 4(v1)",
		"v2 = 0; v3 = v1 / v2; branch v3 1() 4(v1)":               "v2 = 0; v3 = v1 / v2; branch v3 1() 4(v1)",
		"branch v0 1() 1()":                                       "branch v0 1() 1()",
		"v2 = 0; branch v0 1() 4(v2)":                             "v2 = 0; branch v0 1() 4(v2)",
	} {
		expectCode(t, "P8.2", "(2) "+from+rest, "(2) "+want+rest)
	}
}

// A terminator whose A is not a value does not depend on what is known about the value of that number.
func TestOtherTerminators(t *testing.T) {
	for _, end := range []string{"jump 1(v0)", "call 0() 1()", "call 0() 1() 1()", "tail 0()", "tail 0(v0)", "return v0", "throw v0"} {
		for _, n := range []string{"0", "1"} {
			text := lines("(0) v0 = "+n+"; "+end, "(1) return v0")
			expectCode(t, "P8.2", text, text)
		}
	}
}

// What is known in a block is not known in the next one, and numbers mean other values there.
func TestBlocksAreApart(t *testing.T) {
	expectCode(t, "P8.1",
		lines("(1) v1 = 2; v2 = copy v0; v3 = v1 * v1; jump 1(v1 v2 v3)", "(3) v4 = v0 + v2; v5 = copy v1; bind 0 to v0; bind 1 to v2; branch v2 1(v0 v1 v2) 2(v5)", "(1) v2 = 0; v1 = v2 + v0; v3 = 1; return v1"),
		lines("(1) v1 = 2; v2 = copy v0; v3 = 4; jump 1(v1 v0 v3)", "(3) v4 = v0 + v2; v5 = copy v1; bind 0 to v0; bind 1 to v2; branch v2 1(v0 v1 v2) 2(v1)", "(1) v2 = 0; v1 = copy v0; v3 = 1; return v0"))
	expectCode(t, "P8.1",
		lines("(0) v0 = 0; v1 = copy v0; jump 1()", "(0) v5 = 3; v1 = v5 + v5; v0 = copy v1; jump 2(v0)", "(1) v1 = copy v0; v2 = v1 * v1; branch v0 3() 3()", "(0) bind 0 to v0; bind 1 to v1; v1 = 8; v0 = load 0 v1; branch v0 1() 2(v0)", "object 0 0 3"),
		lines("(0) v0 = 0; v1 = 0; jump 1()", "(0) v5 = 3; v1 = 6; v0 = 6; jump 2(v0)", "(1) v1 = copy v0; v2 = v0 * v0; branch v0 3() 3()", "(0) bind 0 to v0; bind 1 to v1; v1 = 8; v0 = load 0 v1; branch v0 1() 2(v0)", "object 0 0 3"))
	// A block that no edge leads to is treated as well, and stays.
	expectCode(t, "P8.1", lines("(1) return v0", "(1) v1 = 0; v2 = v0 | v1; branch v1 1(v1) 1(v2)"), lines("(1) return v0", "(1) v1 = 0; v2 = copy v0; jump 1(v0)"))
}

// The contexts, the objects and the parameters stay as they are.
func TestTheRest(t *testing.T) {
	head := lines("func 3", "context 0 9 2", "context 1 4 3", "object 0 1 2", "object 2 1 8", "")
	expectCode(t, "P8.1", head+"(3) v5 = 0; v9999 = v2 + v5; store 1 v9999 v5; mark 9 in 2; return v9999", head+"(3) v5 = 0; v9999 = copy v2; store 1 v2 v5; mark 9 in 2; return v2")
}
