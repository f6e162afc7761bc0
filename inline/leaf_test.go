package inline

import (
	"strings"
	"testing"

	"debugger/passes"
)

// whole has each kind of operation that a leaf may have, and each kind of terminator.
var whole = lines("object 0 3 4", "object 0 1 8",
	"(0) mark 1; at 2; zero 1; v0 = 3; v1 = copy v0; store 1 v0 v1; v2 = load 0 v1; print v2; v3 = v2 <= v1; branch v3 1(v2) 2(v3 v2)",
	"(1) bind 0 to v0; bind 1 to constant + 4; bind 2.1 to nowhere; jump 3(v0)",
	"(2) throw v1",
	"(1) return v0")

func TestLeaves(t *testing.T) {
	helper := "(0) v0 = 1; return v0"
	for about, c := range map[string]struct {
		text string
		leaf bool
	}{
		"one block":                        {helper, true},
		"12 blocks":                        {chain(12), true},
		"13 blocks":                        {chain(13), false},
		"blocks that are not reached":      {lines("(0) v0 = 1; return v0", strings.Repeat("(1) return v0\n", 11)), true},
		"more blocks that are not reached": {lines("(0) v0 = 1; return v0", strings.Repeat("(1) return v0\n", 12)), false},
		"120 operations":                   {long(120), true},
		"121 operations":                   {long(121), false},
		"120 operations in two blocks":     {lines("(0) "+strings.Repeat("mark 1; ", 60)+"jump 1()", long(60)), true},
		"121 operations in two blocks":     {lines("(0) "+strings.Repeat("mark 1; ", 61)+"jump 1()", long(60)), false},
		"12 blocks with 120 operations":    {lines("(0) "+strings.Repeat("mark 1; ", 119)+"jump 1()", strings.TrimPrefix(chain(12), "(0) jump 1()\n")), true},
		"no operation":                     {lines("(0) jump 1()", "(0) jump 1()"), true},
		"everything":                       {whole, true},
		"a thrown value":                   {"(0) v0 = 1; throw v0", true},
		"a call":                           {lines("(0) call 2() 1()", "(1) return v0"), false},
		"a call that is not reached":       {lines("(0) v0 = 1; return v0", "(0) call 2() 2()", "(1) return v0"), false},
		"a call of itself":                 {lines("(0) mark 2; call 1() 1()", "(1) return v0"), false},
		"a tail call":                      {"(0) tail 2()", false},
		"a tail call that is not reached":  {lines("(0) v0 = 1; return v0", "(1) tail 2()"), false},
		"a second context":                 {lines("context 0 1 2", helper), false},
	} {
		expectCalls(t, "P11.1", about, passes.ParseModule(t, caller(1), c.text, helper), c.leaf)
	}
}

// The parameters of a function as they were at its entry are not those of the function to which its code is added.
func TestEntry(t *testing.T) {
	from := lines("(1) mark 0; call 1(v0) 1()", "(1) return v0")
	expectKept(t, "P11.1", from, "(1) bind 0 to entry 0; mark 1; return v0")
	expectKept(t, "P11.1", from, "(1) bind 0 to entry 0 + 3; mark 1; return v0")
	expectKept(t, "P11.1", from, lines("(1) return v0", "(0) bind 0 to entry 0; jump 1()"))
	for _, source := range []string{"nowhere", "constant + 3", "v0"} {
		expectCalls(t, "P11.1", source, passes.ParseModule(t, from, "(1) bind 0 to "+source+"; mark 1; return v0"), true)
	}
}

// A function of which all calls are replaced is no leaf, as it is the function of the argument that counts.
func TestCallsOfCallers(t *testing.T) {
	small := lines("(0) mark 3; call 2() 1()", "(1) return v0")
	leaf := "(0) v0 = 6; return v0"
	done := lines("context 0 3 2", "(0) mark 3; jump 2()", "(1) return v0", "(0) v0 = 6; jump 1(v0)")
	passes.ExpectModule(t, "P11.1", Inline, []string{strings.Replace(small, "2()", "1()", 1), small, leaf}, []string{strings.Replace(small, "2()", "1()", 1), done, leaf})
	passes.ExpectModule(t, "P11.1", Inline, []string{small, strings.Replace(small, "2()", "0()", 1), leaf}, []string{done, strings.Replace(small, "2()", "0()", 1), leaf})
}

func TestRecursion(t *testing.T) {
	expectKept(t, "P11.1", lines("(1) mark 2; call 0(v0) 1()", "(1) return v0"))
	expectKept(t, "P11.1", lines("(1) mark 2; call 1(v0) 1()", "(1) return v0"), lines("(1) mark 3; call 0(v0) 1()", "(1) return v0"))
	expectInlined(t, "P11.1",
		lines("context 0 4 1", "(1) mark 2; call 0(v0) 1()", "(1) mark 4; jump 3(v0)", "(1) return v0", "(1) v1 = 1; v2 = v0 + v1; jump 2(v2)"),
		lines("(1) mark 2; call 0(v0) 1()", "(1) mark 4; call 1(v0) 2()", "(1) return v0"),
		next)
}
