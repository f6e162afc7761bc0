package unroll

import (
	"fmt"
	"testing"
)

// A block that jumps to itself has no branch that could be put behind it.
func TestJumpToItself(t *testing.T) {
	expectKept(t, "P12.2", lines("(1) jump 1(v0)", "(1) print v0; jump 1(v0)"))
	expectKept(t, "P12.2", lines("(1) branch v0 1(v0) 1(v0)", "(1) jump 1(v0)"))
}

// At least two edges have to lead to the head.
func TestOneEdge(t *testing.T) {
	expectKept(t, "P12.2", lines("(1) branch v0 1(v0) 3(v0)", "(1) jump 2(v0)", "(1) branch v0 3(v0) 3(v0)", "(1) return v0"))
	expectKept(t, "P12.2", lines("(1) return v0", "(1) jump 2(v0)", "(1) branch v0 3(v0) 1(v0)", "(1) return v0"))
}

// The other edge may be any one, also of a block that is not reached.
func TestTwoEdges(t *testing.T) {
	for _, ends := range [][2]string{
		{"jump 2(v0)", "return v0"},
		{"return v0", "branch v0 2(v0) 1(v0)"},
		{"return v0", "branch v0 1(v0) 2(v0)"},
		{"branch v0 2(v0) 3(v0)", "return v0"},
		{"branch v0 3(v0) 2(v0)", "return v0"},
		{"branch v0 2(v0) 2(v0)", "return v0"},
		{"call 0(v0) 2() 3()", "return v0"},
		{"call 0(v0) 3() 2()", "return v0"},
		{"return v0", "call 0(v0) 2()"},
	} {
		code := func(second string) string {
			return lines("(1) "+ends[0], "(1) print v0; "+second, "(1) branch v0 3(v0) 3(v0)", "(1) print v0; "+ends[1])
		}
		expectTurned(t, code("jump 2(v0)"), code("branch v0 3(v0) 3(v0)"))
	}
	// of another block that jumps, which is turned as well
	expectTurned(t,
		lines("(1) return v0", "(1) jump 2(v0)", "(1) branch v0 4(v0) 4(v0)", "(1) print v0; jump 2(v0)", "(1) return v0"),
		lines("(1) return v0", "(1) branch v0 4(v0) 4(v0)", "(1) branch v0 4(v0) 4(v0)", "(1) print v0; branch v0 4(v0) 4(v0)", "(1) return v0"))
	// of the head itself, either one, or both
	expectTurned(t,
		lines("(1) return v0", "(1) print v0; jump 2(v0)", "(1) print v0; branch v0 2(v0) 3(v0)", "(1) return v0"),
		lines("(1) return v0", "(1) print v0; print v0; branch v0 2(v0) 3(v0)", "(1) print v0; branch v0 4(v0) 3(v0)", "(1) return v0", "(1) print v0; branch v0 2(v0) 3(v0)"))
	expectTurned(t,
		lines("(1) return v0", "(1) print v0; jump 2(v0)", "(1) print v0; branch v0 3(v0) 2(v0)", "(1) return v0"),
		lines("(1) return v0", "(1) print v0; print v0; branch v0 3(v0) 2(v0)", "(1) print v0; branch v0 3(v0) 4(v0)", "(1) return v0", "(1) print v0; branch v0 3(v0) 2(v0)"))
	expectTurned(t,
		lines("(1) return v0", "(1) print v0; jump 2(v0)", "(1) print v0; branch v0 2(v0) 2(v0)"),
		lines("(1) return v0", "(1) print v0; print v0; branch v0 2(v0) 2(v0)", "(1) print v0; branch v0 3(v0) 3(v0)", "(1) print v0; branch v0 2(v0) 2(v0)"))
}

// Blocks are looked at from 1 on.
func TestFirstBlock(t *testing.T) {
	expectKept(t, "P12.2", lines("(1) jump 1(v0)", "(1) branch v0 2(v0) 2(v0)", "(1) branch v0 1(v0) 3(v0)", "(1) return v0"))
	expectTurned(t,
		lines("(1) jump 1(v0)", "(1) branch v0 2(v0) 3(v0)", "(1) jump 1(v0)", "(1) return v0"),
		lines("(1) jump 1(v0)", "(1) branch v0 2(v0) 3(v0)", "(1) branch v0 4(v0) 3(v0)", "(1) return v0", "(1) branch v0 2(v0) 3(v0)"))
}

// joined returns a code in which block 1, with some operations, is put behind block 2, with others; and what becomes of it.
func joined(head, block string) (from, want string) {
	code := func(ops, end string) string {
		return lines("object 0 0 2", "(1) branch v0 1(v0) 1(v0)", "(1) "+head+"branch v0 3(v0) 3(v0)", "(1) "+ops+end, "(1) return v0")
	}
	return code(block, "jump 1(v0)"), code(block+head, "branch v0 3(v0) 3(v0)")
}

func TestOperationsOfTheHead(t *testing.T) {
	for _, count := range []int{0, 1, 23, 24} {
		from, want := joined(ops(count), ops(30))
		expectTurned(t, from, want)
	}
	for _, count := range []int{25, 26, 100} {
		from, _ := joined(ops(count), "")
		expectKept(t, "P12.2", from)
	}
}

// Operations of all kinds count.
func TestKindsOfOperations(t *testing.T) {
	all := "v1 = 1; v2 = copy v1; v3 = load 0 v1; store 0 v1 v1; zero 0; print v1; mark 1; at 1; bind 0 to v1; bind 0 to nowhere; bind 0 to constant; bind 0 to entry 0; "
	for v, sign := range []string{"+", "-", "*", "/", "%", "&", "|", "^", "<", "<=", "==", "!="} {
		all += fmt.Sprintf("v%d = v0 %s v1; ", v+4, sign)
	}
	from, want := joined(all, "")
	expectTurned(t, from, want)
	for _, more := range []string{"v16 = 1; ", "at 1; ", "bind 0 to nowhere; "} {
		from, _ = joined(all+more, "")
		expectKept(t, "P12.2", from)
	}
}

// The head has to end with a branch.
func TestTerminatorsOfTheHead(t *testing.T) {
	for _, end := range []string{"jump 3(v0)", "return v0", "throw v0", "tail 0(v0)", "call 0(v0) 3()", "call 0(v0) 3() 3()", "call 0(v0) 1() 2()"} {
		expectKept(t, "P12.2", lines("(1) jump 1(v0)", "(1) "+end, "(1) jump 1(v0)", "(1) return v0"))
	}
}

// Only blocks that end with a jump are turned.
func TestOtherTerminators(t *testing.T) {
	for _, end := range []string{"return v0", "throw v0", "tail 0(v0)", "branch v0 1(v0) 1(v0)", "branch v0 1(v0) 3(v0)", "call 0(v0) 1()", "call 0(v0) 1() 1()"} {
		expectKept(t, "P12.2", lines("(1) branch v0 1(v0) 1(v0)", "(1) branch v0 2(v0) 3(v0)", "(1) "+end, "(1) return v0"))
	}
}

// A block that has been turned ends with a branch, but it does not in the code as it was.
func TestTurnedHead(t *testing.T) {
	expectTurned(t,
		lines("(1) branch v0 1(v0) 2(v0)", "(1) mark 1; jump 2(v0)", "(1) mark 2; branch v0 4(v0) 4(v0)", "(1) mark 3; jump 1(v0)", "(1) return v0"),
		lines("(1) branch v0 1(v0) 2(v0)", "(1) mark 1; mark 2; branch v0 4(v0) 4(v0)", "(1) mark 2; branch v0 4(v0) 4(v0)", "(1) mark 3; jump 1(v0)", "(1) return v0"))
}

// The edges are those of the code as it was: when block 2 has been turned, only one leads to block 1.
func TestLostEdge(t *testing.T) {
	expectTurned(t,
		lines("(1) return v0", "(1) mark 1; branch v0 4(v0) 4(v0)", "(1) mark 2; jump 1(v0)", "(1) mark 3; jump 1(v0)", "(1) return v0"),
		lines("(1) return v0", "(1) mark 1; branch v0 4(v0) 4(v0)", "(1) mark 2; mark 1; branch v0 4(v0) 4(v0)", "(1) mark 3; mark 1; branch v0 4(v0) 4(v0)", "(1) return v0"))
}

// The head stays, also if no edge leads to it any more, and is put behind as many blocks as jump to it.
func TestHeadStays(t *testing.T) {
	expectTurned(t,
		lines("(1) branch v0 2(v0) 3(v0)", "(1) mark 1; branch v0 4(v0) 5(v0)", "(1) mark 2; jump 1(v0)", "(1) mark 3; jump 1(v0)", "(1) mark 4; jump 1(v0)", "(1) return v0"),
		lines("(1) branch v0 2(v0) 3(v0)", "(1) mark 1; branch v0 4(v0) 5(v0)", "(1) mark 2; mark 1; branch v0 4(v0) 5(v0)", "(1) mark 3; mark 1; branch v0 4(v0) 5(v0)", "(1) mark 4; mark 1; branch v0 6(v0) 5(v0)", "(1) return v0",
			"(1) mark 4; mark 1; branch v0 4(v0) 5(v0)"))
}
