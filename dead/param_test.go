package dead

import (
	"fmt"
	"testing"
)

// In both edges of a branch the arguments for the parameters that do not stay are removed, each at its own place.
func TestBranches(t *testing.T) {
	expectDead(t, "P10.5",
		lines("(3) branch v0 1(v0 v1 v2 v1) 2(v2 v1 v0)", "(4) v4 = v1 - v3; return v4", "(3) print v2; return v0"),
		lines("(3) branch v0 1(v1 v1) 2(v2 v0)", "(2) v4 = v0 - v1; return v4", "(2) print v1; return v0"))
	expectDead(t, "P10.5",
		lines("(3) branch v0 1(v0 v1 v2) 1(v2 v0 v1)", "(3) v3 = v0 - v2; return v3"),
		lines("(3) branch v0 1(v0 v2) 1(v2 v1)", "(2) v3 = v0 - v1; return v3"))
	expectDead(t, "P10.5",
		lines("(3) branch v0 1(v0 v1 v2) 2(v2 v0 v1)", "(3) v3 = 1; return v3", "(3) throw v1"),
		lines("(3) branch v0 1() 2(v0)", "(0) v3 = 1; return v3", "(1) throw v0"))
}

// In the edges of a call the first argument is that for the second parameter.
func TestCalls(t *testing.T) {
	expectDead(t, "P10.5",
		lines("(3) call 2(v2 v1) 1(v0 v1 v2) 2(v2 v1 v0)", "(4) v4 = v1 - v3; return v4", "(4) print v2; return v0"),
		lines("(3) call 2(v2 v1) 1(v0 v2) 2(v1)", "(3) v4 = v1 - v2; return v4", "(2) print v1; return v0"))
	expectDead(t, "P10.5",
		lines("(3) call 2() 1(v0 v1 v2)", "(4) v4 = v2 - v0; return v4"),
		lines("(3) call 2() 1(v1)", "(2) v4 = v1 - v0; return v4"))
	expectDead(t, "P10.5",
		lines("(3) call 2() 1(v0 v1 v2) 1(v2 v0 v1)", "(4) v4 = v3 - v1; return v4"),
		lines("(3) call 2() 1(v0 v2) 1(v2 v1)", "(3) v4 = v2 - v1; return v4"))
	// A jump to the same block has an argument more.
	expectDead(t, "P10.5",
		lines("(2) branch v0 1(v0 v1) 2(v1 v0)", "(2) call 2(v0 v1) 3(v1 v0) 3(v0 v1)", "(2) v7 = 3; jump 3(v7 v0 v1)", "(3) v3 = v0 - v2; return v3"),
		lines("(2) branch v0 1(v0 v1) 2(v0)", "(2) call 2(v0 v1) 3(v0) 3(v1)", "(1) v7 = 3; jump 3(v7 v0)", "(2) v3 = v0 - v1; return v3"))
}

func TestJumps(t *testing.T) {
	for kept, want := range map[int]string{0: "v2", 1: "v0", 2: "v1", 3: "v3"} {
		expectDead(t, "P10.5",
			lines("(4) jump 1(v2 v0 v1 v3)", fmt.Sprintf("(4) throw v%d", kept)),
			lines("(4) jump 1("+want+")", "(1) throw v0"))
	}
	// A block that jumps to itself.
	expectDead(t, "P10.5",
		lines("(2) jump 1(v1 v0 v1)", "(3) print v2; print v1; v3 = v1 - v2; jump 1(v0 v2 v3)"),
		lines("(2) jump 1(v0 v1)", "(2) print v1; print v0; v3 = v0 - v1; jump 1(v1 v3)"))
}

// expectRenamed checks what becomes of the rest of a block of whose six parameters 1, 3 and 4 stay and become 0, 1 and 2. Edges may lead to a block 3 with one parameter, and to a block 4 with three.
func expectRenamed(t *testing.T, from, want string) {
	t.Helper()
	ahead := lines("context 0 7 1", "object 0 0 4", "object 0 2 4")
	behind := lines("(1) branch v0 3(v0) 4(v0 v0 v0)", "(1) return v0", "(3) v3 = v2 - v0; v4 = v3 / v1; return v4")
	expectDead(t, "P10.5",
		lines(ahead, "(2) branch v0 1(v0 v1 v0 v0 v1 v0) 2(v0)", "(6) print v4; print v1; print v3; "+from, behind),
		lines(ahead, "(2) branch v0 1(v1 v0 v1) 2(v0)", "(3) print v2; print v0; print v1; "+want, behind))
}

// The parameters that stay have their new numbers everywhere that a value can stand.
func TestNewNumbersOfParameters(t *testing.T) {
	expectRenamed(t, "v6 = copy v3; return v6", "v6 = copy v1; return v6")
	expectRenamed(t, "v6 = load 1 v4; return v6", "v6 = load 1 v2; return v6")
	for _, sign := range []string{"+", "-", "*", "/", "%", "&", "|", "^", "<", "<=", "==", "!="} {
		expectRenamed(t, "v6 = v4 "+sign+" v1; v7 = v3 "+sign+" v6; v8 = v7 "+sign+" v4; return v8", "v6 = v2 "+sign+" v0; v7 = v1 "+sign+" v6; v8 = v7 "+sign+" v2; return v8")
	}
	expectRenamed(t, "store 1 v4 v3; store 0 v1 v1; return v1", "store 1 v2 v1; store 0 v0 v0; return v0")
	expectRenamed(t, "print v3; print v4; return v3", "print v1; print v2; return v1")
	expectRenamed(t, "bind 0 to v3; bind 1.1 in 1 to v4 + 9; bind 2 to v1 + -1; mark 3; return v1", "bind 0 to v1; bind 1.1 in 1 to v2 + 9; bind 2 to v0 + -1; mark 3; return v0")
	for from, want := range map[string]string{
		"return v3": "return v1", "throw v4": "throw v2",
		"jump 3(v3)": "jump 3(v1)", "jump 4(v4 v3 v1)": "jump 4(v2 v1 v0)",
		"branch v3 3(v4) 4(v1 v3 v4)": "branch v1 3(v2) 4(v0 v1 v2)", "branch v1 4(v4 v1 v3) 3(v3)": "branch v0 4(v2 v0 v1) 3(v1)",
		"call 1(v4 v3 v1) 3()": "call 1(v2 v1 v0) 3()", "call 1() 4(v4 v1) 3()": "call 1() 4(v2 v0) 3()", "call 1(v3) 3() 4(v1 v3)": "call 1(v1) 3() 4(v0 v1)",
		"tail 1(v4 v1 v3 v4)": "tail 1(v2 v0 v1 v2)",
	} {
		expectRenamed(t, from, want)
	}
}

// The values that operations define keep their numbers, with gaps.
func TestNumbersOfValues(t *testing.T) {
	expectRenamed(t,
		"v6 = v1 + v3; v30 = v6 * v4; v8 = v30 - v6; v7 = 1; v9999 = v8 + v30; v12 = v7 + v9999; return v9999",
		"v6 = v0 + v1; v30 = v6 * v2; v8 = v30 - v6; v9999 = v8 + v30; return v9999")
	expectRenamed(t,
		"v9999 = 6; v9998 = 7; bind 0 to v9998; bind 1 to v9999; mark 3; jump 4(v9999 v9999 v9999)",
		"v9999 = 6; bind 0 to constant + 7; bind 1 to v9999; mark 3; jump 4(v9999 v9999 v9999)")
	expectDead(t, "P10.5", "(0) v3 = 1; v0 = 2; v5 = 3; v4 = v0 - v5; v1 = copy v5; return v4", "(0) v0 = 2; v5 = 3; v4 = v0 - v5; return v4")
}

// An OpLoad and a division have no effect, so they are removed if they are not needed.
func TestLoadsAndDivisions(t *testing.T) {
	head := "object 0 0 4\n"
	expectDead(t, "P10.5", head+"(2) v2 = load 0 v0; store 0 v0 v1; v3 = 9; v4 = load 0 v3; return v1", head+"(2) store 0 v0 v1; return v1")
	expectDead(t, "P10.5", "(2) v2 = 0; v3 = v0 / v2; v4 = v0 % v2; v5 = v0 / v1; v6 = v1 % v0; return v1", "(2) return v1")
	expectKept(t, "P10.5", head+"(2) v2 = load 0 v0; store 0 v0 v1; v3 = load 0 v0; v4 = v2 / v3; return v4")
}

// Of blocks with as many parameters as there may be, every second one stays.
func TestManyParameters(t *testing.T) {
	first, args, halves, sum, half := "", "", "", "", ""
	for p := range 999 {
		first += fmt.Sprintf("v%d ", p%4)
		args += fmt.Sprintf("v%d ", p)
		if p%2 > 0 {
			halves += fmt.Sprintf("v%d ", p%4)
			sum += fmt.Sprintf("print v%d; ", p)
			half += fmt.Sprintf("print v%d; ", p/2)
		}
	}
	kept := ""
	for p := range 499 {
		kept += fmt.Sprintf("v%d ", p)
	}
	expectDead(t, "P10.5",
		lines("(4) jump 1("+first+")", "(999) branch v1 2("+args+") 1("+args+")", "(999) "+sum+"return v1"),
		lines("(4) jump 1("+halves+")", "(499) branch v0 2("+kept+") 1("+kept+")", "(499) "+half+"return v0"))
}
