package dead

import (
	"fmt"
	"strings"
	"testing"
)

// among returns a code with a block 1 that has so many parameters, a block 3 without parameters and a block 4 with one, to which edges lead, and an object.
func among(params int, block string) string {
	args := strings.TrimSpace(strings.Repeat("v0 ", params))
	return lines("object 0 0 4", "(1) branch v0 1("+args+") 2()", fmt.Sprintf("(%d) %s", params, block),
		"(0) v0 = 6; branch v0 3() 5()", "(0) v0 = 3; return v0", "(1) return v0", "(0) call 0() 4()")
}

// definitions are operations that define the value 5.
var definitions = []string{"v5 = 4", "v5 = copy v0", "v5 = load 0 v0", "v5 = v0 * v0"}

// operating returns operations that define the value 9 and use a value.
func operating(x string) []string {
	list := []string{"v9 = copy " + x, "v9 = load 0 " + x, "v9 = " + x + " + " + x}
	for _, sign := range strings.Fields("+ - * / % & | ^ < <= == !=") {
		list = append(list, "v9 = "+x+" "+sign+" v0", "v9 = v0 "+sign+" "+x)
	}
	return list
}

// using returns ends of blocks in which a value is needed.
func using(x string) []string {
	list := []string{}
	for _, use := range []string{
		"store 0 x v0; return v0", "store 0 v0 x; return v0", "store 0 x x; return v0", "print x; return v0",
		"branch x 3() 3()", "return x", "throw x", "call 0(x) 4()", "call 0(v0 x) 4() 4()", "tail 0(x)", "tail 0(v0 v0 v0 x)", "tail 0(x v0)",
		"jump 4(x)", "branch v0 3() 4(x)", "branch v0 4(x) 3()",
	} {
		list = append(list, strings.ReplaceAll(use, "x", x))
	}
	for _, o := range operating(x) {
		list = append(list, o+"; print v9; return v0", "print v0; "+o+"; v10 = copy v9; v11 = load 0 v10; return v11")
	}
	return list
}

func TestUses(t *testing.T) {
	for _, use := range using("v5") {
		for _, definition := range definitions {
			expectKept(t, "P10.4", among(1, "print v0; "+definition+"; "+use))
		}
	}
	for _, use := range using("v1") {
		expectKept(t, "P10.4", among(2, "print v0; "+use))
	}
}

func TestNoUses(t *testing.T) {
	bare := among(1, "return v0")
	for _, definition := range definitions {
		expectDead(t, "P10.4", among(1, definition+"; return v0"), bare)
		// an operation whose own value is not needed
		for _, o := range operating("v5") {
			expectDead(t, "P10.4", among(1, definition+"; "+o+"; return v0"), bare)
			expectDead(t, "P10.4", among(1, definition+"; "+o+"; v10 = copy v9; v11 = v9 / v10; v12 = load 0 v11; return v0"), bare)
		}
	}
	for _, o := range operating("v1") {
		expectDead(t, "P10.4", among(2, o+"; return v0"), bare)
	}
	expectDead(t, "P10.4", among(2, "return v0"), bare)
	expectDead(t, "P10.4", among(2, "return v1"), bare)
	expectDead(t, "P10.4", among(3, "v3 = 5; tail 0(v3)"), among(0, "v3 = 5; tail 0(v3)"))
}

// A Bind needs nothing.
func TestBindsNeedNothing(t *testing.T) {
	for definition, source := range map[string]string{"v5 = 4": "constant + 4", "v5 = copy v0": "v0", "v5 = load 0 v0": "nowhere", "v5 = v0 * v0": "nowhere"} {
		expectDead(t, "P10.4", among(1, definition+"; bind 0 to v5; mark 3; return v0"), among(1, "bind 0 to "+source+"; mark 3; return v0"))
	}
	expectDead(t, "P10.4", among(2, "bind 0 to v1; mark 3; return v0"), among(1, "bind 0 to entry 0; mark 3; return v0"))
}

// An argument for a parameter that is not needed is not needed, whatever edge has it.
func TestArguments(t *testing.T) {
	last := "(1) v1 = 3; return v1"
	bare := "(0) v1 = 3; return v1"
	expectDead(t, "P10.4", lines("(1) v5 = 4; jump 1(v5)", last), lines("(1) jump 1()", bare))
	expectDead(t, "P10.4", lines("(1) v5 = 4; branch v0 1(v5) 1(v0)", last), lines("(1) branch v0 1() 1()", bare))
	expectDead(t, "P10.4", lines("(1) v5 = 4; branch v0 1(v0) 1(v5)", last), lines("(1) branch v0 1() 1()", bare))
	last, bare = "(2) v2 = 3; return v2", "(1) v2 = 3; return v2"
	expectDead(t, "P10.4", lines("(1) v5 = 4; call 0(v0) 1(v5)", last), lines("(1) call 0(v0) 1()", bare))
	expectDead(t, "P10.4", lines("(1) v5 = 4; v6 = 7; call 0(v0) 1(v5) 1(v6)", last), lines("(1) call 0(v0) 1() 1()", bare))
	// It is if it is used elsewhere, or by another edge.
	expectDead(t, "P10.4", lines("(1) v5 = 4; branch v5 1(v5) 1(v0)", "(1) v1 = 3; return v1"), lines("(1) v5 = 4; branch v5 1() 1()", "(0) v1 = 3; return v1"))
	expectDead(t, "P10.4", lines("(1) v5 = 4; v6 = 5; branch v0 1(v5) 2(v5 v6)", "(1) v1 = 3; return v1", "(2) return v0"), lines("(1) v5 = 4; branch v0 1() 2(v5)", "(0) v1 = 3; return v1", "(1) return v0"))
}

// Of each edge that leads to a block the argument for a parameter that is needed is needed.
func TestArgumentsOfAllEdges(t *testing.T) {
	expectKept(t, "P10.4", lines("(1) v5 = 4; v6 = 5; branch v0 1(v5) 1(v6)", "(1) return v0"))
	expectKept(t, "P10.4", lines("(1) v5 = 4; v6 = 5; call 0() 1(v5) 1(v6)", "(2) throw v1"))
	expectKept(t, "P10.4", lines("(1) branch v0 1() 2()", "(0) v4 = 4; jump 3(v4)", "(0) v5 = 5; branch v5 3(v5) 4()", "(1) return v0", "(0) v4 = 4; v6 = 6; call 0(v4) 5(v6) 5(v4)", "(2) v2 = v0 + v1; jump 3(v2)"))
}

// What is needed in a block far away is needed all the way.
func TestWays(t *testing.T) {
	expectKept(t, "P10.4", lines("(1) v1 = 3; jump 4(v1)", "(1) v1 = copy v0; jump 3(v1)", "(1) print v0; return v0", "(1) jump 2(v0)", "(1) v1 = v0 * v0; jump 1(v1)"))
	expectDead(t, "P10.4",
		lines("(1) v1 = 3; jump 4(v1)", "(1) v1 = copy v0; jump 3(v1)", "(1) v1 = 4; return v1", "(1) jump 2(v0)", "(1) v1 = v0 * v0; jump 1(v1)"),
		lines("(1) jump 4()", "(0) jump 3()", "(0) v1 = 4; return v1", "(0) jump 2()", "(0) jump 1()"))
	// Only on some of the ways, and only one of the values.
	expectDead(t, "P10.4",
		lines("(2) v2 = 3; v3 = 4; branch v0 1(v2 v3) 2(v2 v3)", "(2) jump 3(v1 v0)", "(2) jump 4(v0 v1)", "(2) print v0; return v0", "(2) v2 = 6; throw v2"),
		lines("(2) v3 = 4; branch v0 1(v3) 2()", "(1) jump 3(v0)", "(0) jump 4()", "(1) print v0; return v0", "(0) v2 = 6; throw v2"))
}

// Values that only need each other round a loop are not needed.
func TestLoops(t *testing.T) {
	// A sum that nothing uses, beside a number that is counted down.
	from := lines("(1) v1 = 0; jump 1(v0 v1)", "(2) v2 = 1; v3 = v1 + v2; v4 = v0 - v2; branch v4 1(v4 v3) 2(v3)", "(1) %sv1 = 5; return v1")
	expectDead(t, "P10.4", fmt.Sprintf(from, ""), lines("(1) jump 1(v0)", "(1) v2 = 1; v4 = v0 - v2; branch v4 1(v4) 2()", "(0) v1 = 5; return v1"))
	expectKept(t, "P10.4", fmt.Sprintf(from, "print v0; "))
	// Two that are swapped, and one of two blocks, which becomes itself again.
	from = lines("(1) v1 = 0; v2 = v1 + v0; jump 1(v1 v2 v0)", "(3) branch v2 2(v1 v0 v2) 3(%s)", "(3) jump 1(v0 v1 v2)", "(1) return v0")
	expectDead(t, "P10.4", fmt.Sprintf(from, "v2"), lines("(1) jump 1(v0)", "(1) branch v0 2(v0) 3(v0)", "(1) jump 1(v0)", "(1) return v0"))
	expectKept(t, "P10.4", fmt.Sprintf(from, "v1"))
	expectKept(t, "P10.4", fmt.Sprintf(from, "v0"))
	from = lines("(1) v1 = 4; jump 1(v1 v1)", "(2) v2 = 6; print v2; v3 = v1 / v0; v4 = v0 - v1; jump 1(v3 v4)")
	expectDead(t, "P10.4", from, lines("(1) jump 1()", "(0) v2 = 6; print v2; jump 1()"))
	// The rest of a loop needs the value in one block only.
	expectDead(t, "P10.4",
		lines("(1) v1 = 4; jump 1(v1 v0)", "(2) v2 = 1; v3 = v0 + v2; branch v1 2(v3 v1) 3(v3)", "(2) branch v1 1(v0 v1) 4(v0)", "(1) v1 = 2; return v1", "(1) v1 = 2; throw v1"),
		lines("(1) jump 1(v0)", "(1) branch v0 2(v0) 3()", "(1) branch v0 1(v0) 4()", "(0) v1 = 2; return v1", "(0) v1 = 2; throw v1"))
	expectDead(t, "P10.4",
		lines("(1) v1 = 4; jump 1(v1 v0)", "(2) v2 = 1; v3 = v0 + v2; branch v1 2(v3 v1) 3(v3)", "(2) branch v1 1(v0 v1) 4(v0)", "(1) v1 = 2; return v1", "(1) v1 = 2; throw v0"),
		lines("(1) v1 = 4; jump 1(v1 v0)", "(2) v2 = 1; v3 = v0 + v2; branch v1 2(v3 v1) 3()", "(2) branch v1 1(v0 v1) 4(v0)", "(0) v1 = 2; return v1", "(1) throw v0"))
}

// All parameters of the function stay.
func TestParametersOfTheFunction(t *testing.T) {
	for params := range 5 {
		expectKept(t, "P10.4", fmt.Sprintf("(%d) bind 3 to nowhere; v7 = 1; return v7", params))
		expectKept(t, "P10.4", lines(fmt.Sprintf("(%d) jump 1()", params), "(0) v7 = 1; return v7"))
	}
	expectKept(t, "P10.4", lines("(4) bind 0 to v0; bind 1 to v1 + 7; bind 2 to v2; bind 3 to v3; mark 3; v7 = 1; return v7"))
}

// The first parameter of a block that an edge of a call leads to stays, with its arguments in other edges.
func TestReceived(t *testing.T) {
	expectKept(t, "P10.4", lines("(1) call 0(v0) 1() 2()", "(1) v1 = 1; return v1", "(1) v1 = 2; return v1"))
	expectKept(t, "P10.4", lines("(1) call 0(v0) 1()", "(1) call 0() 1() 1()"))
	for _, call := range []string{"call 0(v0) 3() 4()", "call 0(v0) 4() 3()"} {
		expectKept(t, "P10.4", lines("(1) branch v0 1(v0) 2()", "(1) "+call, "(0) v0 = 5; v1 = v0 + v0; jump 3(v1)", "(1) v1 = 1; return v1", "(1) v1 = 2; return v1"))
		expectDead(t, "P10.4",
			lines("(1) branch v0 1(v0) 2()", "(1) "+strings.ReplaceAll(call, "3()", "3(v0)"), "(0) v0 = 5; v1 = v0 + v0; jump 3(v1 v0)", "(2) v2 = 1; return v2", "(1) v1 = 2; return v1"),
			lines("(1) branch v0 1(v0) 2()", "(1) "+call, "(0) v0 = 5; v1 = v0 + v0; jump 3(v1)", "(1) v2 = 1; return v2", "(1) v1 = 2; return v1"))
	}
	// The parameters behind it do not.
	expectDead(t, "P10.4",
		lines("(1) v1 = 6; call 0(v0) 1(v0 v1) 2(v1)", "(3) v3 = 1; return v3", "(2) v2 = 2; return v2"),
		lines("(1) call 0(v0) 1() 2()", "(1) v3 = 1; return v3", "(1) v2 = 2; return v2"))
}

func TestLongRows(t *testing.T) {
	row, used := "v1 = 1; ", "v5000"
	for v := 2; v <= 5000; v++ {
		row += fmt.Sprintf("v%d = v%d + v0; ", v, v-1)
	}
	expectKept(t, "P10.4", "(1) "+row+"return "+used)
	expectDead(t, "P10.4", "(1) "+row+"return v0", "(1) return v0")
}
