package tailcall

import (
	"strings"
	"testing"
)

// head gives the codes of these tests a context and objects.
const head = "context 0 7 1\nobject 0 0 2\nobject 1 0 2\n"

// silent are operations that a block that only returns may have; spoken are the others.
var (
	silent = []string{"", "at 0; ", "at 3; ", "at 4 in 1; ", "bind 0 to nowhere; ", "bind 1.2 to constant + 3; ", "bind 2 in 1 to v0; ", "bind 0 to v0 + 3; ", "bind 1.3 in 1 to entry 1 + 2; "}
	spoken = append([]string{"v1 = 0; ", "v1 = 7; ", "v1 = copy v0; ", "v1 = load 0 v0; ", "store 0 v0 v0; ", "store 1 v0 v0; ", "zero 0; ", "zero 1; ", "print v0; ", "mark 0; ", "mark 3; ", "mark 4 in 1; "}, computed()...)
)

// computed returns an operation of each kind from OpAdd to OpNotEqual.
func computed() []string {
	list := []string{}
	for _, sign := range strings.Fields("+ - * / % & | ^ < <= == !=") {
		list = append(list, "v1 = v0 "+sign+" v0; ")
	}
	return list
}

// A block that only returns the result may have Binds and Ats, in any order, and nothing else.
func TestOperations(t *testing.T) {
	call, tail := head+"(2) mark 3; call 1(v1) 1()\n", head+"(2) mark 3; tail 1(v1)\n"
	for _, o := range silent {
		for _, other := range silent {
			next := "(1) " + o + other + "return v0"
			expectTails(t, call+next, tail+next)
		}
	}
	all := strings.Join(silent, "")
	expectTails(t, call+"(1) "+all+all+"return v0", tail+"(1) "+all+all+"return v0")
	for _, o := range spoken {
		expectKept(t, call+"(1) "+o+"return v0")
		expectKept(t, call+"(1) "+o+all+"return v0")
		expectKept(t, call+"(1) "+all+o+"return v0")
		expectKept(t, call+"(1) "+all+o+all+"return v0")
	}
}

// The operations of the block of the call itself are of no importance.
func TestOperationsAhead(t *testing.T) {
	for _, o := range append(append([]string{}, silent...), spoken...) {
		b := strings.ReplaceAll(o, "v1 =", "v2 =")
		expectTails(t, head+"(2) "+b+"call 1(v1) 1()\n(1) at 2; return v0", head+"(2) "+b+"tail 1(v1)\n(1) at 2; return v0")
	}
}

// What is thrown has to be thrown on, so there is no second edge, also not one to a block that throws at once.
func TestHandlers(t *testing.T) {
	next := "\n(1) at 3; return v0\n(1) throw v0\n(2) return v0"
	for _, edge := range []string{"1()", "2()", "3(v0)", "3(v1)"} {
		expectKept(t, "(2) call 2(v1) 1() "+edge+next)
	}
	expectTails(t, "(2) call 2(v1) 1()"+next, "(2) tail 2(v1)"+next)
}

// The first edge has no arguments, also where the block only returns the result, or one of the arguments.
func TestArguments(t *testing.T) {
	for _, params := range []string{"(2)", "(3)"} {
		args := map[string]string{"(2)": "(v1)", "(3)": "(v1 v0)"}[params]
		for _, ops := range []string{"", "at 3; ", "bind 0 to v1; at 3; "} {
			for _, value := range []string{"v0", "v1"} {
				expectKept(t, "(2) call 2(v1) 1"+args+"\n"+params+" "+ops+"return "+value)
			}
		}
	}
}

// The block returns; no other terminator will do, also if it leads to a block that returns at once.
func TestTerminators(t *testing.T) {
	rest := "\n(1) return v0\n(0) v0 = 1; return v0"
	for _, end := range []string{"jump 2(v0)", "jump 3()", "branch v0 2(v0) 2(v0)", "call 2(v0) 3(v0)", "call 2() 3(v0) 3(v0)", "throw v0", "tail 2(v0)", "tail 2()"} {
		for _, ops := range []string{"", "at 3; ", "bind 0 to v0; at 3; "} {
			next := rest
			if strings.HasPrefix(end, "call") {
				next = "\n(1) return v0\n(2) return v0"
			}
			expectKept(t, "(2) call 2(v1) 1()\n(1) "+ops+end+next)
		}
	}
}

// The block returns its value 0, which is the result of the call, and no other value.
func TestValues(t *testing.T) {
	for _, next := range []string{"(1) v1 = copy v0; return v1", "(1) v1 = copy v0; at 3; return v0", "(1) v1 = 0; return v1", "(1) v9999 = v0 + v0; return v9999"} {
		expectKept(t, "(2) call 2(v1) 1()\n"+next)
	}
	expectKept(t, "(2) call 2(v1) 1(v0)\n(2) return v1")
	expectKept(t, "(2) call 2(v1) 1(v0)\n(2) return v0")
}

// Several calls may lead to the same block, each of its own kind.
func TestSameBlock(t *testing.T) {
	expectTails(t,
		lines("(2) branch v0 1(v0) 2(v0)", "(1) call 1(v0) 4()", "(1) mark 3; call 2(v0 v0) 4()", "(1) call 1(v0) 4() 4()", "(1) at 5; return v0", "(1) jump 4(v0)", "(1) call 3() 4()"),
		lines("(2) branch v0 1(v0) 2(v0)", "(1) tail 1(v0)", "(1) mark 3; tail 2(v0 v0)", "(1) call 1(v0) 4() 4()", "(1) at 5; return v0", "(1) jump 4(v0)", "(1) tail 3()"))
}

// A call may lead to its own block, which ends with a call.
func TestOwnBlock(t *testing.T) {
	expectKept(t, lines("(1) jump 1(v0)", "(1) call 0(v0) 1()"))
	expectKept(t, lines("(1) jump 1(v0)", "(1) at 3; call 0(v0) 1()"))
	expectKept(t, lines("(1) jump 1(v0)", "(1) call 0(v0) 1() 1()"))
	expectTails(t, lines("(1) jump 1(v0)", "(1) call 0(v0) 2()", "(1) return v0"), lines("(1) jump 1(v0)", "(1) tail 0(v0)", "(1) return v0"))
}

// A call that leads to one that becomes a tail call stays: its block did not return.
func TestRow(t *testing.T) {
	expectTails(t,
		lines("(1) call 0(v0) 1()", "(1) call 1(v0) 2()", "(1) return v0"),
		lines("(1) call 0(v0) 1()", "(1) tail 1(v0)", "(1) return v0"))
	expectTails(t,
		lines("(1) call 0(v0) 2()", "(1) return v0", "(1) call 1(v0) 1()"),
		lines("(1) call 0(v0) 2()", "(1) return v0", "(1) tail 1(v0)"))
}
