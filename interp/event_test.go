package interp

import (
	"testing"

	"debugger/api"
	"debugger/checker"
)

func TestFrames(t *testing.T) {
	expectFrames(t, "P5.4", "func f(a) { a = a + 1; return a; }", []int{4}, "f 0 a=4", "f 1 a=5")
	expectFrames(t, "P5.4", "func f() { }", nil, "f 0")
	expectFrames(t, "P5.4", `record R { p, q, r }
func f(a, b) {
	var r: R;
	r.q = a;
	if b {
		var l: int[4];
		l[2] = 8;
		a = g(l[2], a);
		var z: int;
	} else {
		var z: R;
		z.r = 3;
	}
	g(r.q, b);
}
func g(x, y) {
	try {
		var l: int[2];
		l[1] = x / y;
		return h(l[1]);
	} catch e {
		e = e + 1;
	}
	return x;
}
func h(v) {
	if v { throw v; }
	return 6;
}
`, []int{2, 3},
		"f 0 a=2 b=3",
		"f 1 a=2 b=3 r=0,0,0",
		"f 2 a=2 b=3 r=0,2,0",
		"f 3 a=2 b=3 r=0,2,0",
		"f 4 a=2 b=3 r=0,2,0 l=0,0,0,0",
		"f 5 a=2 b=3 r=0,2,0 l=0,0,8,0",
		"g 11 x=8 y=2 < f 5 a=2 b=3 r=0,2,0 l=0,0,8,0",
		"g 12 x=8 y=2 < f 5 a=2 b=3 r=0,2,0 l=0,0,8,0",
		"g 13 x=8 y=2 l=0,0 < f 5 a=2 b=3 r=0,2,0 l=0,0,8,0",
		"g 14 x=8 y=2 l=0,4 < f 5 a=2 b=3 r=0,2,0 l=0,0,8,0",
		"h 18 v=4 < g 14 x=8 y=2 l=0,4 < f 5 a=2 b=3 r=0,2,0 l=0,0,8,0",
		"h 19 v=4 < g 14 x=8 y=2 l=0,4 < f 5 a=2 b=3 r=0,2,0 l=0,0,8,0",
		"g 15 x=8 y=2 e=4 < f 5 a=2 b=3 r=0,2,0 l=0,0,8,0",
		"g 16 x=8 y=2 < f 5 a=2 b=3 r=0,2,0 l=0,0,8,0",
		"f 6 a=8 b=3 r=0,2,0 l=0,0,8,0",
		"f 9 a=8 b=3 r=0,2,0",
		"g 11 x=2 y=3 < f 9 a=8 b=3 r=0,2,0",
		"g 12 x=2 y=3 < f 9 a=8 b=3 r=0,2,0",
		"g 13 x=2 y=3 l=0,0 < f 9 a=8 b=3 r=0,2,0",
		"g 14 x=2 y=3 l=0,0 < f 9 a=8 b=3 r=0,2,0",
		"h 18 v=0 < g 14 x=2 y=3 l=0,0 < f 9 a=8 b=3 r=0,2,0",
		"h 20 v=0 < g 14 x=2 y=3 l=0,0 < f 9 a=8 b=3 r=0,2,0",
		"f 10 a=8 b=3 r=0,2,0",
	)
}

// A statement behind a block sees none of the block's variables, and two variables of one name are told apart.
func TestScopes(t *testing.T) {
	text := "func f(a) { if a { var x: int; x = 5; } print a; if a { var x: int; print x; } else { var x: int; } var x: int; x = 7; }"
	s := source(t, text)
	events, _ := whole(s, 0, []int{1}, 100)
	want := [][]int{{0}, {0}, {0, 1}, {0}, {0}, {0}, {0, 2}, {0}, {0, 4}, {0, 4}}
	if len(events) != len(want) {
		t.Fatalf("P5.4: the events are %s", stops(events))
	}
	for i, e := range events {
		got := []int{}
		for _, v := range e.Frames[0].Vars {
			got = append(got, v.Var)
		}
		if key(got) != key(want[i]) {
			t.Errorf("P5.4: at event %d the variables are %v, not %v", i, got, want[i])
		}
	}
}

// All frames of a recursion, each with the words of its own variables.
func TestFramesOfARecursion(t *testing.T) {
	s := source(t, "func f(a) { var l: int[2]; l[1] = a * a; if a { a = f(a - 1); } return l[1]; }")
	events, o := whole(s, 0, []int{api.MaxCalls - 1}, api.MaxSteps)
	if describe(o) != "value 361" || len(events) != 5*19+4 {
		t.Fatalf("P5.4: there are %d events and the outcome is %s", len(events), describe(o))
	}
	innermost := events[4*19+2].Frames
	if len(innermost) != api.MaxCalls {
		t.Fatalf("P5.4: the innermost activation has %d frames", len(innermost))
	}
	for i, f := range innermost {
		stmt, square := 3, i*i
		if i == 0 {
			stmt = 2
		}
		words := [][]int{{i}, {0, square}}
		if f.Func != 0 || f.Stmt != stmt || len(f.Vars) != 2 || key(f.Vars[0].Words) != key(words[0]) || key(f.Vars[1].Words) != key(words[1]) {
			t.Errorf("P5.4: frame %d is %+v", i, f)
		}
	}
}

// All words are known, there are as many as the variable has, and the variables are those of checker.Visible.
func TestShownVariables(t *testing.T) {
	s := source(t, "record A { x } record B { x, y, z, w } func f(p) { var s: int; var a: A; var b: B; var l: int[1]; var m: int[8]; g(p, 2); } func g(p, q) { try { throw p; } catch e { var c: A; c.x = e; } }")
	events, _ := whole(s, 0, []int{8}, 100)
	if len(events) != 12 {
		t.Fatalf("P5.4: the events are %s", stops(events))
	}
	for _, e := range events {
		for _, f := range e.Frames {
			visible := checker.Visible(s, f.Func, f.Stmt)
			if len(f.Vars) != len(visible) {
				t.Errorf("P5.4: in %+v there are %d variables, not %d", f, len(f.Vars), len(visible))
				continue
			}
			for i, v := range f.Vars {
				info := s.Vars[f.Func][v.Var]
				all := []bool{}
				for range info.Words {
					all = append(all, true)
				}
				if v.Var != visible[i] || len(v.Words) != info.Words || key(v.Known) != key(all) {
					t.Errorf("P5.4: %+v is not the variable %d with %d words", v, visible[i], info.Words)
				}
			}
		}
	}
}

// Event i of one run is what happens first if the window begins there.
func TestEventsAreNumbered(t *testing.T) {
	s := source(t, short)
	all, _ := whole(s, 0, []int{3}, 100)
	for i := range all {
		one, _ := Trace(s, 0, []int{3}, 100, i, 1)
		if key(one) != key(all[i:i+1]) {
			t.Errorf("P5.1: event %d is %v", i, one)
		}
	}
}
