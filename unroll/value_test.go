package unroll

import "testing"

// Block 2 of these codes has the values 0 to 4, and jumps to block 1, whose parameters 0 to 2 are its 4, 1 and 0, and 3 is 4 as well; it gets the numbers from 5 on.
const (
	ahead = "object 0 0 2\nobject 1 1 3\ncontext 0 1 0\n(3) branch v0 1(v0 v1 v2 v2) 3(v0)\n(4) "
	block = "\n(3) v3 = 1; v4 = v0 - v3; bind 3 to v2 + 1; "
	rest  = "\n(1) return v0\n(0) v0 = 1; branch v0 2(v0 v0 v0) 3(v0)"
)

// expectPut checks what block 1, with some operations and the end of a branch, becomes behind block 2.
func expectPut(t *testing.T, ops, end, wantOps, wantEnd string) {
	t.Helper()
	head := ahead + ops + "branch " + end + block
	expectTurned(t, head+"jump 1(v4 v1 v0 v4)"+rest, head+wantOps+"branch "+wantEnd+rest)
}

func TestOperations(t *testing.T) {
	for from, want := range map[string]string{
		"": "",
		// the values of operations
		"v4 = copy v0; ":                   "v5 = copy v4; ",
		"v4 = copy v1; ":                   "v5 = copy v1; ",
		"v4 = copy v2; print v4; ":         "v5 = copy v0; print v5; ",
		"v4 = 8; v5 = copy v4; ":           "v5 = 8; v6 = copy v5; ",
		"v4 = load 1 v3; ":                 "v5 = load 1 v4; ",
		"v5 = 8; v9 = load 0 v5; ":         "v5 = 8; v6 = load 0 v5; ",
		"store 0 v0 v2; store 1 v3 v0; ":   "store 0 v4 v0; store 1 v4 v4; ",
		"v4 = 8; store 1 v2 v4; ":          "v5 = 8; store 1 v0 v5; ",
		"print v0; print v2; print v3; ":   "print v4; print v0; print v4; ",
		"v5 = 1; v4 = v5 - v0; ":           "v5 = 1; v6 = v5 - v4; ",
		"v6 = v2 / v0; v5 = 2; ":           "v5 = v0 / v4; v6 = 2; ",
		"v9999 = v0 * v3; zero 1; ":        "v5 = v4 * v4; zero 1; ",
		"v4 = v0 + v1; v5 = v4 <= v2; ":    "v5 = v4 + v1; v6 = v5 <= v0; ",
		"v7 = 0; v4 = 1; v5 = 2; v6 = 3; ": "v5 = 0; v6 = 1; v7 = 2; v8 = 3; ",
		// what a piece is bound to
		"bind 0 to v0; bind 1 to v3 + 7; ":               "bind 0 to v4; bind 1 to v4 + 7; ",
		"bind 1.3 in 1 to v2 + 4; ":                      "bind 1.3 in 1 to v0 + 4; ",
		"v4 = 1; bind 2 to v4 + -2; ":                    "v5 = 1; bind 2 to v5 + -2; ",
		"bind 2 to v5; v5 = 1; ":                         "bind 2 to v5; v5 = 1; ",
		"bind 2 to v7; v4 = v0 + v1; v7 = 1; ":           "bind 2 to v6; v5 = v4 + v1; v6 = 1; ",
		"bind 0 to nowhere; bind 1.2 to nowhere;":        "bind 0 to nowhere; bind 1.2 to nowhere;",
		"bind 0 to constant; bind 2 to constant + 2; ":   "bind 0 to constant; bind 2 to constant + 2; ",
		"bind 0 to entry 0; bind 2 in 1 to entry 2 + 1;": "bind 0 to entry 0; bind 2 in 1 to entry 2 + 1;",
		// positions
		"mark 0; mark 1 in 1; at 2; at 3 in 1; ": "mark 0; mark 1 in 1; at 2; at 3 in 1; ",
	} {
		expectPut(t, from, "v2 3(v0) 3(v1)", want, "v0 3(v4) 3(v1)")
	}
	for _, sign := range []string{"+", "-", "*", "/", "%", "&", "|", "^", "<", "<=", "==", "!="} {
		expectPut(t, "v4 = v0 "+sign+" v2; v5 = v4 "+sign+" v1; v6 = v2 "+sign+" v5; ", "v6 3(v4) 3(v5)",
			"v5 = v4 "+sign+" v0; v6 = v5 "+sign+" v1; v7 = v0 "+sign+" v6; ", "v7 3(v5) 3(v6)")
	}
}

func TestBranches(t *testing.T) {
	for from, want := range map[string]string{
		"v0 3(v0) 3(v0)": "v4 3(v4) 3(v4)",
		"v3 3(v1) 3(v2)": "v4 3(v1) 3(v0)",
		"v8 4() 3(v6)":   "v6 4() 3(v5)",
		"v6 3(v8) 4()":   "v5 3(v6) 4()",
		"v1 4() 4()":     "v1 4() 4()",
	} {
		expectPut(t, "v6 = v0 - v2; v8 = v6 * v6; ", from, "v5 = v4 - v0; v6 = v5 * v5; ", want)
	}
}

// The head may lead to itself, and to the block that it is put behind; then there are copies of both.
func TestBackEdges(t *testing.T) {
	first, head, block := "(1) branch v0 1(v0 v0) 2(v0)", "(2) v2 = 3; v3 = v0 - v2; ", "(1) v1 = copy v0; v2 = v0 * v1; "
	turned := block + "v3 = 3; v4 = v2 - v3; "
	expectTurned(t,
		lines(first, head+"branch v1 2(v3) 1(v2 v1)", block+"jump 1(v2 v0)"),
		lines(first, head+"branch v1 2(v3) 3(v2 v1)", turned+"branch v0 4(v4) 1(v3 v0)", head+"branch v1 2(v3) 1(v2 v1)", turned+"branch v0 2(v4) 1(v3 v0)"))
	expectTurned(t,
		lines(first, head+"branch v1 1(v2 v1) 1(v3 v0)", block+"jump 1(v2 v0)"),
		lines(first, head+"branch v1 3(v2 v1) 3(v3 v0)", turned+"branch v0 1(v3 v0) 1(v4 v2)", head+"branch v1 1(v2 v1) 1(v3 v0)"))
}

// There may be no parameters, and the first new number is that behind the last parameter if the block defines no value.
func TestParameters(t *testing.T) {
	for _, c := range [][4]string{
		{"(0) v0 = 7; v1 = v0 + v0; branch v1 3() 3()", "(2) v2 = v0 - v1; ", "()", "v3 = 7; v4 = v3 + v3; branch v4 3() 3()"},
		{"(0) v0 = 7; branch v0 3() 3()", "(0) ", "()", "v0 = 7; branch v0 3() 3()"},
		{"(0) v5 = 7; v0 = 8; branch v5 3() 3()", "(3) print v1; mark 2; ", "()", "v3 = 7; v4 = 8; branch v3 3() 3()"},
		{"(1) v1 = v0 + v0; branch v1 3() 3()", "(4) ", "(v2)", "v4 = v2 + v2; branch v4 3() 3()"},
		{"(1) print v0; branch v0 3() 3()", "(4) ", "(v3)", "print v3; branch v3 3() 3()"},
		{"(3) v3 = v0 - v1; v4 = v2 - v3; branch v4 3() 3()", "(2) v9 = 1; v4 = 2; ", "(v9 v9 v1)", "v10 = v9 - v9; v11 = v1 - v10; branch v11 3() 3()"},
	} {
		code := func(end string) string {
			return lines("(0) jump 3()", c[0], c[1]+end, "(0) v0 = 1; return v0", c[1]+end)
		}
		expectTurned(t, code("jump 1"+c[2]), code(c[3]))
	}
}

// A number is replaced once: that of an argument may be that of another parameter, or of a value that gets a new number.
func TestReplacedOnce(t *testing.T) {
	code := func(head, block string) string {
		return lines("(1) branch v0 3() 1(v0 v0 v0)", "(3) "+head, "(3) "+block, "(0) v0 = 1; return v0")
	}
	expectTurned(t, code("v3 = v0 - v1; v4 = v2 - v3; branch v4 3() 3()", "jump 1(v1 v2 v0)"), code("v3 = v0 - v1; v4 = v2 - v3; branch v4 3() 3()", "v3 = v1 - v2; v4 = v0 - v3; branch v4 3() 3()"))
	expectTurned(t, code("v5 = v2 - v0; v3 = v1 - v5; v4 = v3 - v1; branch v5 3() 3()", "v3 = 2; v4 = 3; jump 1(v4 v3 v4)"), code("v5 = v2 - v0; v3 = v1 - v5; v4 = v3 - v1; branch v5 3() 3()", "v3 = 2; v4 = 3; v5 = v4 - v4; v6 = v3 - v5; v7 = v6 - v3; branch v5 3() 3()"))
}
