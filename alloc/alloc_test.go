package alloc

import (
	"testing"

	"debugger/api"
	"debugger/passes"
)

func TestRefused(t *testing.T) {
	for about, c := range passes.Refused(t) {
		for _, keep := range []bool{false, true} {
			if l := Allocate(c, keep); !zero(l) {
				t.Errorf("P15.5: %s: the layout is %+v", about, l)
			}
		}
	}
}

func TestExample(t *testing.T) {
	expectBoth(t, "P15.3", "(2) v2 = v0 + v1; v3 = v2 + v1; return v3", "r1 r2 r1 r1")
}

// The smallest codes have a block without values, and one without operations.
func TestSmallest(t *testing.T) {
	expectBoth(t, "P15.5", lines("(0) jump 1()", "(0) jump 1()"), "", "")
	expectBoth(t, "P15.5", "(1) return v0", "r1")
	expectBoth(t, "P15.5", "(4) return v3", "r1 r2 r3 r4")
}

// The greatest number of a value decides how long the list of a block is; numbers between that are not defined have no place.
func TestNumbers(t *testing.T) {
	expectBoth(t, "P15.5", lines(
		"(1) v5 = 1; v3 = v5 + v0; print v3; v7 = v5 + v3; jump 1(v7)",
		"(1) mark 3; jump 2()",
		"(0) bind 0 to constant; at 3; jump 3()",
		"(0) v4 = 2; v2 = 3; return v4",
		"(2) v2 = 4; throw v2",
	), "r1 - - r1 - r2 - r1", "r1", "", "- - r2 - r1", "r1 r2 r1")
	l := layout(t, passes.Parse(t, lines("(1) v9999 = 1; jump 2(v9999)", "(0) v9998 = 1; return v9998", "(1) jump 1()")), true)
	if len(l.Places) != 3 || len(l.Places[0]) != 10000 || len(l.Places[1]) != 9999 || len(l.Places[2]) != 1 {
		t.Errorf("P15.5: the layout has %d, %d and %d places", len(l.Places[0]), len(l.Places[1]), len(l.Places[2]))
	}
	for v, p := range l.Places[0] {
		if (p != api.Place{}) != (v == 0 || v == 9999) {
			t.Errorf("P15.5: the place of value %d is %+v", v, p)
		}
	}
}

// All blocks have a list, also those that are not reached.
func TestUnreached(t *testing.T) {
	expectBoth(t, "P15.5", lines("(1) return v0", "(2) v2 = v0 + v1; jump 1(v2 v1)"), "r1", "r1 r2 r1")
}

// frame is how a frame is divided.
type frame struct {
	slots, saves int
	objects      []int
	size         int
}

func expectFrame(t *testing.T, promise, text string, want frame) {
	t.Helper()
	for _, keep := range []bool{false, true} {
		l := layout(t, passes.Parse(t, text), keep)
		if !equal(l, api.Layout{Places: l.Places, Slots: want.slots, Saves: want.saves, Objects: want.objects, Size: want.size}) {
			t.Errorf("%s: the frame is %+v, not %+v, for\n%s", promise, l, want, text)
		}
	}
}

// Objects follow the save slots, and these the other slots.
func TestObjects(t *testing.T) {
	objects := lines("context 0 3 1", "object 0 3 4", "object 1 0 1", "object 0 0 8", "object 1 3 2", "")
	many := "(10) v10 = 3; jump 3(v10)"
	saving := "(2) call 0(v0) 3() 2(v0 v1 v0 v1 v0 v1 v0 v1 v0)"
	expectFrame(t, "P15.5", "(1) return v0", frame{})
	expectFrame(t, "P15.5", objects+"(1) return v0", frame{0, 0, []int{0, 4, 5, 13}, 15})
	expectFrame(t, "P15.5", lines("object 0 1 3", "(1) return v0"), frame{0, 0, []int{0}, 3})
	expectFrame(t, "P15.5", lines(objects+"(1) jump 2(v0 v0 v0 v0 v0 v0 v0 v0 v0 v0)", saving, many, "(1) return v0"), frame{2, 2, []int{4, 8, 9, 17}, 19})
	expectFrame(t, "P15.5", lines("(1) jump 2(v0 v0 v0 v0 v0 v0 v0 v0 v0 v0)", "(0) v0 = 1; return v0", many, "(1) jump 1()"), frame{2, 0, nil, 2})
	expectFrame(t, "P15.5", lines("(1) call 0(v0) 3()", saving, many, "(1) return v0"), frame{2, 2, nil, 4})
	expectFrame(t, "P15.5", lines("(1) call 0(v0) 1(v0)", "(2) return v1"), frame{0, 1, nil, 1})
}
