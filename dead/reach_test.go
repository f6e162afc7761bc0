package dead

import (
	"fmt"
	"testing"

	"debugger/api"
)

// code returns a text of blocks that have no parameters but for block 0, which has one, with these terminators.
func code(terminators ...string) string {
	text := ""
	for i, t := range terminators {
		params := min(1, max(0, 1-i))
		text += fmt.Sprintf("(%d) %s\n", params, t)
	}
	return text
}

func TestBlocksThatAreNotReached(t *testing.T) {
	for _, c := range []struct{ from, want string }{
		// one
		{code("jump 2()", "tail 0()", "tail 1()"), code("jump 1()", "tail 1()")},
		{code("jump 1()", "tail 0()", "tail 1()"), code("jump 1()", "tail 0()")},
		{code("return v0", "tail 0()"), code("return v0")},
		// several, which lead to each other
		{code("jump 3()", "jump 2()", "tail 0()", "tail 1()"), code("jump 1()", "tail 1()")},
		{code("jump 3()", "tail 0()", "jump 1()", "tail 1()"), code("jump 1()", "tail 1()")},
		// in a circle
		{code("jump 2()", "jump 1()", "tail 1()"), code("jump 1()", "tail 1()")},
		{code("jump 2()", "jump 3()", "tail 1()", "jump 1()"), code("jump 1()", "tail 1()")},
		{code("jump 3()", "v0 = 1; branch v0 2() 1()", "v0 = 2; branch v0 1() 4()", "tail 1()", "jump 1()"), code("jump 1()", "tail 1()")},
		// that lead to blocks that stay
		{code("jump 2()", "jump 2()", "tail 1()"), code("jump 1()", "tail 1()")},
		{code("jump 2()", "v0 = 1; branch v0 2() 1()", "jump 3()", "jump 2()"), code("jump 1()", "jump 2()", "jump 1()")},
		// all but block 0
		{code("tail 1()", "jump 2()", "jump 3()", "jump 1()"), code("tail 1()")},
	} {
		expectDead(t, "P10.2", c.from, c.want)
	}
}

// All edges of the blocks that are reached count, whatever they are.
func TestBlocksThatAreReached(t *testing.T) {
	for _, text := range []string{
		code("jump 3()", "jump 2()", "tail 1()", "jump 1()"),
		code("branch v0 1() 2()", "tail 1()", "tail 2()"),
		code("branch v0 2() 1()", "tail 1()", "tail 2()"),
		code("v1 = 0; branch v1 2() 1()", "tail 1()", "tail 2()"),
		code("jump 1()", "jump 1()"),
		lines("(0) call 0() 2() 1()", "(1) call 1() 3()", "(1) return v0", "(1) throw v0"),
	} {
		expectKept(t, "P10.2", text)
	}
	long, back := "(0) jump 1()\n", "(0) jump 399()\n(0) tail 0()\n"
	for b := 1; b < api.MaxBlocks-1; b++ {
		long += fmt.Sprintf("(0) jump %d()\n", b+1)
		back += fmt.Sprintf("(0) jump %d()\n", b)
	}
	expectKept(t, "P10.2", long+"(0) tail 0()")
	expectKept(t, "P10.2", back)
}

// The blocks that stay keep their order, and every edge has the new number; edges that lead nowhere stay.
func TestNewNumbersOfBlocks(t *testing.T) {
	expectDead(t, "P10.2",
		lines("(1) branch v0 8() 3()", "(0) tail 1()", "(0) jump 1()", "(0) call 2() 10() 6()", "(0) jump 2()", "(0) jump 5()",
			"(1) call 3() 6()", "(0) tail 7()", "(0) v0 = 8; branch v0 11() 8()", "(0) jump 8()", "(1) return v0", "(0) v0 = 9; throw v0"),
		lines("(1) branch v0 3() 1()", "(0) call 2() 4() 2()",
			"(1) call 3() 2()", "(0) v0 = 8; branch v0 5() 3()", "(1) return v0", "(0) v0 = 9; throw v0"))
}

// What is in a block that is not reached does not count any more.
func TestWhatIsNotReached(t *testing.T) {
	want := lines("(2) branch v1 1() 1()", "(0) bind 0 to entry 0; mark 3; v1 = 1; return v1")
	for _, other := range []string{
		// an edge with another argument
		"(1) v1 = 5; jump 2(v1)",
		"(0) v0 = 5; branch v0 2(v0) 1()",
		// a jump from a circle
		"(1) branch v0 2(v0) 1(v0)",
		// a call that gives the parameter
		"(0) call 1() 2()",
		"(1) call 1() 1() 2()",
	} {
		expectDead(t, "P10.3", lines("(2) branch v1 2(v0) 2(v0)", other, "(1) bind 0 to v0; mark 3; v1 = 1; return v1"), want)
	}
	// The use of a parameter, and of an argument for one that is needed.
	expectDead(t, "P10.4", lines("(1) v1 = 6; jump 2(v1)", "(1) print v0; jump 2(v0)", "(1) v1 = 1; return v1"), lines("(1) jump 1()", "(0) v1 = 1; return v1"))
	expectDead(t, "P10.4", lines("(1) v1 = 6; jump 3(v1)", "(1) return v0", "(1) jump 1(v0)", "(1) v1 = 1; return v1"), lines("(1) jump 1()", "(0) v1 = 1; return v1"))
}
