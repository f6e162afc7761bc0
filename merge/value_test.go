package merge

import (
	"testing"

	"debugger/api"
	"debugger/ir"
	"debugger/passes"
)

// Block 0 of these codes has the values 0 to 4; block 1 has the parameters 0 to 2, which are its 4, 1 and 0, and gets the numbers from 5 on.
const (
	ahead   = "object 0 0 2\nobject 1 1 3\ncontext 0 1 0\n(3) v3 = 1; v4 = v0 - v3; bind 3 to v2 + 1; "
	jumping = ahead + "jump 1(v4 v1 v0)\n(3) "
)

// expectOps checks what becomes of the operations of block 1, which returns its value 1.
func expectOps(t *testing.T, from, want string) {
	t.Helper()
	if from != "" {
		from, want = from+"; ", want+"; "
	}
	expectMerged(t, jumping+from+"return v1", ahead+want+"return v1")
}

func TestOperations(t *testing.T) {
	for from, want := range map[string]string{
		"": "",
		// the values of operations
		"v3 = copy v0":            "v5 = copy v4",
		"v3 = copy v1":            "v5 = copy v1",
		"v3 = copy v2; print v3":  "v5 = copy v0; print v5",
		"v3 = 8; v4 = copy v3":    "v5 = 8; v6 = copy v5",
		"v3 = load 1 v0":          "v5 = load 1 v4",
		"v5 = 8; v9 = load 0 v5":  "v5 = 8; v6 = load 0 v5",
		"store 0 v0 v2":           "store 0 v4 v0",
		"v4 = 8; store 1 v2 v4":   "v5 = 8; store 1 v0 v5",
		"v4 = 8; store 1 v4 v0":   "v5 = 8; store 1 v5 v4",
		"print v0; print v2":      "print v4; print v0",
		"v8 = 1; print v8":        "v5 = 1; print v5",
		"v4 = 1; v3 = v4 - v0":    "v5 = 1; v6 = v5 - v4",
		"v6 = v2 / v0; v5 = 2":    "v5 = v0 / v4; v6 = 2",
		"v3 = v1 < v2; v4 = 4":    "v5 = v1 < v0; v6 = 4",
		"v9999 = v0 * v0; zero 1": "v5 = v4 * v4; zero 1",
		// what a piece is bound to
		"bind 0 to v0":                       "bind 0 to v4",
		"bind 1.3 in 1 to v2 + 4":            "bind 1.3 in 1 to v0 + 4",
		"v3 = 1; bind 2 to v3 + -2":          "v5 = 1; bind 2 to v5 + -2",
		"bind 2 to v4; v4 = 1":               "bind 2 to v5; v5 = 1",
		"bind 2 to v7; v3 = v0 + v1; v7 = 1": "bind 2 to v6; v5 = v4 + v1; v6 = 1",
		"bind 2 to v3; bind 1 to v0; v3 = v0 ^ v0; bind 2 to v3 + 1": "bind 2 to v5; bind 1 to v4; v5 = v4 ^ v4; bind 2 to v5 + 1",
		// fields that hold no values
		"v3 = 0; v4 = 1; v5 = 2; v6 = 3":               "v5 = 0; v6 = 1; v7 = 2; v8 = 3",
		"zero 0; zero 1":                               "zero 0; zero 1",
		"mark 0; mark 1 in 1; at 2; at 3 in 1":         "mark 0; mark 1 in 1; at 2; at 3 in 1",
		"bind 0 to nowhere; bind 1.2 in 1 to nowhere":  "bind 0 to nowhere; bind 1.2 in 1 to nowhere",
		"bind 0 to constant; bind 2.1 to constant + 2": "bind 0 to constant; bind 2.1 to constant + 2",
		"bind 0 to entry 0; bind 2 to entry 2 + 1":     "bind 0 to entry 0; bind 2 to entry 2 + 1",
	} {
		expectOps(t, from, want)
	}
	for _, sign := range []string{"+", "-", "*", "/", "%", "&", "|", "^", "<", "<=", "==", "!="} {
		expectOps(t, "v3 = v0 "+sign+" v2; v4 = v3 "+sign+" v1; v5 = v2 "+sign+" v4", "v5 = v4 "+sign+" v0; v6 = v5 "+sign+" v1; v7 = v0 "+sign+" v6")
	}
}

// Another edge leads to each of the blocks behind block 1, so that they stay.
const (
	later = "\n(0) v0 = 1; branch v0 2() 3(v0)\n(1) branch v0 4(v0 v0) 2()\n(2) branch v1 3(v0) 4(v1 v0)"
	moved = "\n(0) v0 = 1; branch v0 1() 2(v0)\n(1) branch v0 3(v0 v0) 1()\n(2) branch v1 2(v0) 3(v1 v0)"
)

func TestTerminators(t *testing.T) {
	for from, want := range map[string]string{
		"jump 2()":                            "jump 1()",
		"jump 3(v6)":                          "jump 2(v6)",
		"jump 4(v1 v0)":                       "jump 3(v1 v4)",
		"jump 4(v2 v5)":                       "jump 3(v0 v5)",
		"branch v0 2() 3(v1)":                 "branch v4 1() 2(v1)",
		"branch v6 4(v2 v0) 4(v5 v6)":         "branch v6 3(v0 v4) 3(v5 v6)",
		"branch v2 3(v2) 2()":                 "branch v0 2(v0) 1()",
		"call 5(v0 v1 v2 v5) 4(v6) 3()":       "call 5(v4 v1 v0 v5) 3(v6) 2()",
		"call 4(v2) 3()":                      "call 4(v0) 2()",
		"call 0() 4(v2) 4(v0)":                "call 0() 3(v0) 3(v4)",
		"call 2(v0 v0) 3() 4(v5)":             "call 2(v4 v4) 2() 3(v5)",
		"return v0":                           "return v4",
		"return v1":                           "return v1",
		"return v6":                           "return v6",
		"throw v2":                            "throw v0",
		"throw v5":                            "throw v5",
		"tail 3(v6 v1 v0)":                    "tail 3(v6 v1 v4)",
		"tail 0(v2)":                          "tail 0(v0)",
		"tail 2()":                            "tail 2()",
		"v7 = v6 - v0; v3 = 2; return v3":     "v7 = v6 - v4; v8 = 2; return v8",
		"v3 = v0 * v5; v4 = 3; tail 1(v3 v4)": "v7 = v4 * v5; v8 = 3; tail 1(v7 v8)",
	} {
		expectMerged(t, jumping+"v5 = v0 - v2; v6 = v1 % v5; "+from+later, ahead+"v5 = v4 - v0; v6 = v1 % v5; "+want+moved)
	}
}

// The joined block keeps the position that the first one had, and its bindings stay for the next Mark or At.
func TestPosition(t *testing.T) {
	s := api.Source{Vars: [][]api.VarInfo{{{Kind: api.VarScalar, Words: 1, To: 9}}, nil}}
	m := api.Module{Funcs: []api.Code{
		passes.Parse(t, "(1) bind 0 to v0; mark 3; jump 1(v0)\n(1) call 1() 2(v0)\n(2) return v1"),
		passes.Parse(t, "func 1\n(0) v0 = 6; mark 7; return v0"),
	}}
	for _, c := range []struct {
		module api.Module
		stmt   int
	}{{m, -1}, {passes.Applied(t, "P9.1", Merge, reckon, m), 3}} {
		events, _ := ir.Trace(s, c.module, 0, []int{5}, 10, 0, 10)
		if outer := events[1].Frames[1]; outer.Stmt != c.stmt || len(outer.Vars) != min(c.stmt+1, 1) {
			t.Errorf("P9.1: the outer frame is %+v", outer)
		}
	}
}
