package ir

import (
	"fmt"
	"strings"
	"testing"

	"debugger/api"
)

// The example of the document.
func TestExample(t *testing.T) {
	m := module(t, "(1) bind 0 to v0; mark 7; v1 = v0 + v0; return v1")
	s := scalars(1, 1)
	events, o := Trace(s, m, 0, []int{3}, 100, 0, 100)
	want := []api.Event{{Frames: []api.Frame{{Stmt: 7, Vars: []api.Shown{{Known: []bool{true}, Words: []int{3}}}}}}}
	if key(events) != key(want) || key(o) != key(api.Outcome{Value: 6}) {
		t.Errorf("P6.4: %s and %s", key(events), describe(o))
	}
	s.Vars[0][0].From = 8
	expectFrames(t, s, m, []int{3}, "0@7")
}

func TestSources(t *testing.T) {
	for binds, want := range map[string]string{
		"":                                "?",
		"bind 0 to nowhere":               "?",
		"bind 0 to constant":              "0",
		"bind 0 to constant + -9":         "-9",
		"bind 0 to v0":                    "5",
		"bind 0 to v1 + 10":               "16",
		"bind 0 to v1 + -10":              "-4",
		"bind 0 to entry 0":               "5",
		"bind 0 to entry 1 + 3":           "9",
		"bind 0 to v2 + 1":                fmt.Sprint(least),
		"bind 0 to v2 + 2":                fmt.Sprint(least + 1),
		"bind 0 to v3":                    "11",
		"v9 = 3; bind 0 to v9":            "3",
		"bind 0 to v9; v9 = 3":            "3",
		"bind 0 to v4":                    "?",
		"bind 0 to v4 + 7":                "?",
		"bind 1 to v0":                    "?",
		"bind 0.1 to v0":                  "?",
		"bind 0 in 1 to v0":               "?",
		"bind 0 to v0; bind 0 to v1":      "6",
		"bind 0 to v0; bind 0 to v4":      "?",
		"bind 0 to v4; bind 0 to v1":      "6",
		"bind 0 to v0; bind 1 to v1":      "5",
		"bind 0 to v0; bind 0.1 to v1":    "5",
		"bind 0 to v0; bind 0 in 1 to v1": "5",
		"bind 0 to v0; bind 0 to nowhere": "?",
	} {
		if binds != "" {
			binds += "; "
		}
		m := module(t, fmt.Sprintf("context 0 0 0\n(2) v2 = %d; v3 = v0 + v1; %smark 7; v4 = 9; return v0", greatest, binds))
		expectFrames(t, scalars(1, 1), m, []int{5, 6}, "0@7 0="+want)
	}
	expectFrames(t, scalars(1, 1), module(t, fmt.Sprintf("(1) bind 0 to entry 0 + %d; mark 7; return v0", least)), []int{least + 4}, "0@7 0=4")
}

// What a Mark makes current stays until the next Mark or At, and until the block ends.
func TestBindings(t *testing.T) {
	for _, c := range []struct {
		text string
		args []int
		want []string
	}{
		// Behind a Mark the next bindings wait for the next Mark.
		{"(2) bind 0 to v0; mark 1; bind 0 to v1; bind 1 to v0; mark 2; mark 3; return v0", []int{5, 6}, []string{"0@1 0=5 1=?", "0@2 0=6 1=5", "0@3 0=6 1=5"}},
		// An At makes them current, too; a call then shows them.
		{"(2) bind 0 to v0; mark 1; bind 1 to v1; call 1() 1()\n(1) return v0", []int{5, 6}, []string{"0@1 0=5 1=?", "1@50 0=? 1=? < 0@1 0=5 1=?"}},
		{"(2) bind 0 to v0; mark 1; bind 1 to v1; at 2; call 1() 1()\n(1) return v0", []int{5, 6}, []string{"0@1 0=5 1=?", "1@50 0=? 1=? < 0@2 0=5 1=6"}},
		{"(2) bind 0 to v0; at 1; bind 1 to v1; call 1() 1()\n(1) return v0", []int{5, 6}, []string{"1@50 0=? 1=? < 0@1 0=5 1=?"}},
		// Behind the Binds without a Mark or At the position is unknown.
		{"(2) bind 0 to v0; bind 1 to v1; call 1() 1()\n(1) return v0", []int{5, 6}, []string{"1@50 0=? 1=? < 0@-1"}},
		{"(2) call 1() 1()\n(1) call 1() 2()\n(1) mark 3; return v0", []int{5, 6}, []string{"1@50 0=? 1=? < 0@-1", "1@50 0=? 1=? < 0@-1", "0@3 0=? 1=?"}},
		// The next block has no binding of the one ahead, and no position.
		{"(2) bind 0 to v0; mark 1; jump 1(v1)\n(1) bind 1 to v0; mark 2; jump 2()\n(0) v0 = 3; mark 3; return v0", []int{5, 6}, []string{"0@1 0=5 1=?", "0@2 0=? 1=6", "0@3 0=? 1=?"}},
		{"(2) bind 0 to v0; mark 1; jump 1(v1)\n(1) call 1() 2()\n(1) bind 0 to v0; call 1() 3()\n(1) mark 4; return v0", []int{5, 6},
			[]string{"0@1 0=5 1=?", "1@50 0=? 1=? < 0@-1", "1@50 0=? 1=? < 0@-1", "0@4 0=? 1=?"}},
		// So it is where the block is the same.
		{"(2) jump 1(v0 v1)\n(2) mark 1; bind 0 to v0; v2 = 7; bind 1 to v2; mark 2; v3 = 1; v4 = v0 - v3; branch v4 1(v4 v1) 2(v4)\n(1) return v0", []int{2, 6},
			[]string{"0@1 0=? 1=?", "0@2 0=2 1=7", "0@1 0=? 1=?", "0@2 0=1 1=7"}},
		// A value whose operation comes later is not known yet, also if an earlier execution of the block has had it.
		{"(2) jump 1(v0 v1)\n(2) bind 0 to v2; mark 1; v2 = v0 + v1; bind 1 to v2; mark 2; v3 = 1; v4 = v0 - v3; branch v4 1(v4 v1) 2(v4)\n(1) return v0", []int{2, 6},
			[]string{"0@1 0=? 1=?", "0@2 0=8 1=8", "0@1 0=? 1=?", "0@2 0=7 1=7"}},
		// At a call all operations of the block have been executed; the bindings are those of the latest Mark.
		{"(2) bind 0 to v2 + 1; mark 1; v2 = v0 + v1; bind 0 to v0; call 1() 1()\n(1) return v0", []int{5, 6}, []string{"0@1 0=? 1=?", "1@50 0=? 1=? < 0@1 0=12 1=?"}},
		// The arguments with which an activation was entered stay; block 0 has no other values.
		{"(2) jump 1(v1 v0)\n(2) bind 0 to entry 0; bind 1 to v0; mark 1; tail 2(v0 v1)", []int{5, 6}, []string{"0@1 0=5 1=6", "2@9 0=6 1=5"}},
		{"(2) call 2(v1 v0) 1(v0)\n(2) bind 0 to entry 0; bind 1 to entry 1; mark 1; return v0", []int{5, 6}, []string{"2@9 0=6 1=5 < 0@-1", "0@1 0=5 1=6"}},
	} {
		m := module(t, c.text, "(0) mark 50; v0 = 8; return v0", "(2) bind 0 to v0; bind 1 to entry 1; mark 9; return v0")
		expectFrames(t, scalars(3, 2), m, c.args, c.want...)
	}
}

// Records have a binding for each piece; what has more words than pieces has unknown ones.
func TestPieces(t *testing.T) {
	s := api.Source{Vars: [][]api.VarInfo{{
		{Kind: api.VarRecord, Words: 3, To: 99},
		{Kind: api.VarScalar, Words: 1, To: 99},
		{Kind: api.VarRecord, Words: 4, To: 99},
		{Kind: api.VarRecord, Words: 8, To: 99},
		{Kind: api.VarScalar, Words: 2, To: 99},
		{Kind: 0, Words: 1, To: 99},
	}}}
	m := module(t, "(2) bind 0 to v0; bind 0.2 to v1; bind 0.3 to v1; bind 1 to v1; bind 1.1 to v0; bind 2.1 to v0; bind 2.3 to constant + 4; bind 3.3 to v0; bind 4 to v0; bind 4.1 to v1; bind 5 to v0; mark 1; bind 0.1 to v0; bind 0.2 to v0; mark 2; return v0")
	expectFrames(t, s, m, []int{5, 6},
		"0@1 0=5,?,6 1=6 2=?,5,?,4 3=?,?,?,5,?,?,?,? 4=5,6 5=5",
		"0@2 0=5,5,5 1=6 2=?,5,?,4 3=?,?,?,5,?,?,?,? 4=5,6 5=5")
}

func TestArrays(t *testing.T) {
	s := api.Source{Vars: [][]api.VarInfo{{
		{Kind: api.VarArray, Words: 3, To: 99},
		{Kind: api.VarArray, Words: 2, To: 99},
		{Kind: api.VarArray, Words: 8, To: 99},
		{Kind: api.VarArray, Words: 2, To: 99},
		{Kind: api.VarScalar, Words: 1, To: 99},
	}}}
	// The objects of the variables 0 and 2 have 3 and 5 words, the one of 1 has more than it shows; there is none of 3; the scalar has no words of an object.
	const objects = "context 0 3 0\nobject 0 2 5\nobject 0 0 3\nobject 0 1 8\nobject 1 3 2\nobject 1 0 1\nobject 0 4 1\n"
	m := module(t, objects+"(2) mark 1; v2 = 1; v3 = 0; v4 = 4; store 0 v4 v0; store 1 v2 v1; store 2 v3 v0; store 2 v4 v0; store 4 v3 v1; store 5 v3 v1; bind 0.1 to v0; bind 3 to v0; mark 2; zero 1; mark 3; mark 4 in 1; jump 1()\n"+
		"(0) v0 = 0; mark 5; store 0 v0 v0; return v0")
	expectFrames(t, s, m, []int{5, 6},
		"0@1 0=0,0,0 1=0,0 2=0,0,0,0,0,?,?,? 3=?,? 4=?",
		"0@2 0=0,6,0 1=5,0 2=0,0,0,0,5,?,?,? 3=?,? 4=?",
		"0@3 0=0,0,0 1=5,0 2=0,0,0,0,5,?,?,? 3=?,? 4=?",
		"0@4 0=6,?,? 1=?,? 2=?,?,?,?,?,?,?,? 3=0,0 4=? < 0@3 0=0,0,0 1=5,0 2=0,0,0,0,5,?,?,? 3=?,? 4=?",
		"0@5 0=0,0,0 1=5,0 2=0,0,0,0,5,?,?,? 3=?,? 4=?")
	// An array has the words that it has now, whatever the latest Mark was, in outer frames, too.
	m = module(t, "object 0 0 2\n(2) mark 1; store 0 v0 v1; call 0(v0 v1) 1()\n(1) return v0")
	s = api.Source{Vars: [][]api.VarInfo{{{Kind: api.VarArray, Words: 2, To: 99}}}}
	events, _ := Trace(s, m, 0, []int{1, 7}, 3, 0, 100)
	if len(events) != 3 || frames(events[2]) != "0@1 0=0,0 < 0@1 0=0,7 < 0@1 0=0,7" {
		t.Errorf("P6.4: the events of arrays are %s", key(events))
	}
}

// A context has the frames of its parents behind its own, each at the statement of the context within.
func TestFramesOfContexts(t *testing.T) {
	// The function 0 has 1 (at statement 40) within, which has 2 (at 41) and 2 again (at 42); within the latter is 3 (at 43).
	m := module(t, "context 0 40 1\ncontext 1 41 2\ncontext 1 42 2\ncontext 3 43 3\ncontext 0 44 1\n(2) bind 0 to constant; bind 0 in 1 to constant + 1; bind 0 in 2 to constant + 2; bind 0 in 3 to constant + 3; bind 0 in 4 to v0; bind 0 in 5 to v1; "+
		"mark 10; mark 11 in 1; mark 12 in 2; mark 13 in 3; mark 14 in 4; mark 15 in 5; at 16 in 4; call 1() 1()\n(1) return v0",
		"(0) mark 20; v0 = 7; return v0", "(0) tail 1()", "(0) tail 1()")
	s := scalars(4, 1)
	expectFrames(t, s, m, []int{8, 9},
		"0@10 0=0",
		"1@11 0=1 < 0@40 0=0",
		"2@12 0=2 < 1@41 0=1 < 0@40 0=0",
		"2@13 0=3 < 1@42 0=1 < 0@40 0=0",
		"3@14 0=8 < 2@43 0=3 < 1@42 0=1 < 0@40 0=0",
		"1@15 0=9 < 0@44 0=0",
		"1@20 0=? < 3@16 0=8 < 2@43 0=3 < 1@42 0=1 < 0@40 0=0")
	// Each frame has the variables that are in scope at its own statement, in its own function.
	s.Vars[0][0] = api.VarInfo{Kind: api.VarScalar, Words: 1, From: 41, To: 99}
	s.Vars[1] = append(s.Vars[1], api.VarInfo{Kind: api.VarRecord, Words: 2, From: 42, To: 42}, api.VarInfo{Kind: api.VarScalar, Words: 1, From: 11, To: 11})
	s.Vars[2][0].To = 12
	s.Vars = s.Vars[:3]
	expectFrames(t, s, m, []int{8, 9},
		"0@10",
		"1@11 0=1 2=? < 0@40",
		"2@12 0=2 < 1@41 0=1 < 0@40",
		"2@13 < 1@42 0=1 1=?,? < 0@40",
		"3@14 < 2@43 < 1@42 0=1 1=?,? < 0@40",
		"1@15 0=9 < 0@44 0=0",
		"1@20 0=? < 3@16 < 2@43 < 1@42 0=1 1=?,? < 0@40")
	expectFrames(t, api.Source{}, m, []int{8, 9}, "0@10", "1@11 < 0@40", "2@12 < 1@41 < 0@40", "2@13 < 1@42 < 0@40", "3@14 < 2@43 < 1@42 < 0@40", "1@15 < 0@44", "1@20 < 3@16 < 2@43 < 1@42 < 0@40")
	// The longest way from a context to context 0.
	deepest := module(t, chain(64)+"(0) mark 5 in 63; v0 = 1; return v0")
	expectFrames(t, api.Source{}, deepest, nil, "0@5"+strings.Repeat(" < 0@1", 63))
	// Where the position is unknown there is one frame, of the function itself.
	unknown := module(t, "context 0 3 0\ncontext 1 3 1\n(0) bind 0 to constant; call 1() 1()\n(1) return v0", "(0) at 6; v0 = 5; mark 7; return v0")
	expectFrames(t, scalars(2, 2), unknown, nil, "1@7 0=? 1=? < 0@-1")
	// A scope that holds the statement -1 makes no difference.
	s = scalars(2, 1)
	s.Vars[0][0].From = -5
	expectFrames(t, s, unknown, nil, "1@7 0=? < 0@-1")
}

func TestScopes(t *testing.T) {
	s := api.Source{Vars: [][]api.VarInfo{{
		{Kind: api.VarScalar, Words: 1, From: 3, To: 5},
		{Kind: api.VarScalar, Words: 1, From: 5, To: 4},
		{Kind: api.VarScalar, Words: 1, From: 4, To: 9999},
		{Kind: api.VarScalar, Words: 1, From: 0, To: 3},
		{Kind: api.VarArray, Words: 1, From: 9999, To: 9999},
	}}}
	m := module(t, "(1) bind 0 to v0; bind 1 to v0; bind 2 to v0; mark 0; mark 2; mark 3; mark 4; mark 5; mark 6; mark 9998; mark 9999; return v0")
	expectFrames(t, s, m, []int{7}, "0@0 3=?", "0@2 3=?", "0@3 0=7 3=?", "0@4 0=7 2=7", "0@5 0=7 2=7", "0@6 2=7", "0@9998 2=7", "0@9999 2=7 4=?")
}

// Variables that no code can bind are shown.
func TestManyVariables(t *testing.T) {
	s := scalars(1, 30)
	events, _ := Trace(s, module(t, "(1) bind 23 to v0; mark 0; return v0"), 0, []int{6}, 10, 0, 10)
	if len(events) != 1 || len(events[0].Frames[0].Vars) != 30 {
		t.Fatalf("P6.4: %s", key(events))
	}
	for v, shown := range events[0].Frames[0].Vars {
		if shown.Var != v || shown.Known[0] != (v == 23) {
			t.Errorf("P6.4: variable %d is %+v", v, shown)
		}
	}
}
