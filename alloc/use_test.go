package alloc

import (
	"testing"

	"debugger/api"
	"debugger/operation"
	"debugger/passes"
)

// The kinds of operations use the values A and B as last ones: there value 9 takes a register of theirs, and values 11 and 12 take what is free behind it.
func TestLastUse(t *testing.T) {
	for kind := api.OpCopy; kind <= api.OpPrint; kind++ {
		one, two := operation.Uses(kind)
		for _, x := range []struct {
			a, b int
			want string
		}{
			{1, 2, "r1 r2 r3 - - - - - - r2 r4 r2 r3"},
			{2, 1, "r1 r2 r3 - - - - - - r2 r4 r2 r3"},
			{1, 1, "r1 r2 r3 - - - - - - r2 r3 r2 r4"},
			{2, 2, "r1 r2 r3 - - - - - - r3 r2 r3 r4"},
			{1, 0, "r1 r2 r3 - - - - - - r2 r3 r2 r4"},
			{2, 0, "r1 r2 r3 - - - - - - r3 r2 r3 r4"},
		} {
			if !one || two != (x.b > 0) {
				continue
			}
			c := passes.Parse(t, lines("object 0 0 2", "(3) v10 = 1; mark 2; v11 = 1; v12 = 1; tail 0(v0 v10 v11 v12)"))
			c.Blocks[0].Ops[1] = api.Op{Kind: kind, A: x.a, B: x.b}
			want := x.want
			if operation.Defines(kind) {
				c.Blocks[0].Ops[1].Dst = 9
			} else {
				want = want[:21] + "-" + want[23:]
			}
			for _, keep := range []bool{false, true} {
				if got := shown(layout(t, c, keep).Places[0]); got != want {
					t.Errorf("P15.2: with the values %d and %d of kind %d the places are\n%s, not\n%s", x.a, x.b, kind, got, want)
				}
			}
		}
	}
}

// Fields that an operation or a terminator does not use are no uses of value 0, whose register value 2 takes.
func TestOtherFields(t *testing.T) {
	for _, o := range []string{"v3 = 4", "v3 = copy v1", "v3 = load 0 v1", "print v1", "zero 0", "mark 3", "at 3", "bind 0 to nowhere", "bind 0 to constant", "bind 0 to v1", "bind 0 to entry 0"} {
		for _, end := range []string{"jump 1()", "call 0(v1) 2()", "call 0() 2() 2()", "tail 0(v1)", "branch v1 1() 1()", "return v1"} {
			text := lines("object 0 0 2", "(2) v2 = 5; "+o+"; mark 7; v4 = v1 + v2; "+end, "(0) jump 1()", "(1) return v0")
			l := layout(t, passes.Parse(t, text), true)
			if got := shown(l.Places[0][:3]); got != "r1 r2 r1" {
				t.Errorf("P15.2: the places are %s in\n%s", got, text)
			}
		}
	}
}

// A terminator uses the values A and Args, and the arguments of its edges, behind all operations.
func TestTerminators(t *testing.T) {
	for end, want := range map[string]string{
		"return v0":                 "r1 r2",
		"throw v0":                  "r1 r2",
		"tail 0(v0)":                "r1 r2",
		"tail 0(v1 v0)":             "r1 r2",
		"call 0(v1 v1 v0) 2()":      "r1 r2",
		"call 0(v0) 2() 2()":        "r1 r2",
		"call 0() 3(v0)":            "r1 r2",
		"call 0(v1) 2() 3(v0)":      "r1 r2",
		"call 0(v1) 3(v0) 2()":      "r1 r2",
		"jump 3(v1 v0)":             "r1 r2",
		"branch v0 1() 1()":         "r1 r2",
		"branch v1 3(v1 v0) 1()":    "r1 r2",
		"branch v1 1() 3(v0 v1)":    "r1 r2",
		"return v1":                 "r1 r1",
		"throw v1":                  "r1 r1",
		"tail 0(v1 v1)":             "r1 r1",
		"call 0(v1) 3(v1) 3(v1)":    "r1 r1",
		"jump 3(v1 v1)":             "r1 r1",
		"branch v1 2(v1) 3(v1 v1)":  "r1 r1",
		"jump 1()":                  "r1 r1",
		"tail 0()":                  "r1 r1",
		"call 0() 2()":              "r1 r1",
		"branch v0 2(v0) 3(v0 v0)":  "r1 r2",
		"call 0(v0 v0) 3(v0) 3(v0)": "r1 r2",
	} {
		expectBoth(t, "P15.2", lines("(1) v1 = 1; "+end, "(0) jump 1()", "(1) return v0", "(2) return v0"), want)
	}
}

// A use by the terminator is behind all others, and one by an operation behind those ahead of it.
func TestSeveralUses(t *testing.T) {
	expectBoth(t, "P15.2", "(2) print v0; v2 = 1; print v0; v3 = 2; print v0; print v1; v4 = 3; tail 0(v2 v3 v4 v1)", "r1 r2 r3 r4 r1")
	expectBoth(t, "P15.2", "(2) print v0; print v1; v2 = v1 + v0; v3 = v1 + v2; return v1", "r1 r2 r1 r1")
	expectBoth(t, "P15.2", "(1) v1 = 1; v2 = v1 + v0; v3 = 2; return v1", "r1 r2 r1 r1")
}

// A value without a use, parameter or not, occupies nothing at once.
func TestWithoutUse(t *testing.T) {
	expectBoth(t, "P15.2", "(3) v3 = 1; v4 = 2; v5 = 3; tail 0(v0 v2)", "r1 r2 r3 r2 r2 r2")
	expectBoth(t, "P15.2", "(2) v2 = 1; v3 = 2; v4 = 3; tail 0(v3 v4)", "r1 r2 r1 r1 r2")
}

// Marks, Ats and Binds are no uses without keep.
func TestWithoutKeep(t *testing.T) {
	text := "(2) bind 0 to v0; bind 1 to v1 + 3; v2 = 1; bind 0.1 to v2; mark 3; at 4; v3 = 2; mark 5; bind 2 to v3; v4 = 3; at 6; mark 7; return v4"
	expectPlaces(t, "P15.2", text, false, "r1 r2 r1 r1 r1")
	expectPlaces(t, "P15.2", text, true, "r1 r2 r3 r4 r5")
}
