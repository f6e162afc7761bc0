package emit

import (
	"fmt"
	"testing"

	"debugger/api"
	"debugger/duplicate"
	"debugger/ir"
	"debugger/passes"
)

// A program without functions has neither code nor a pool.
func TestNoFunctions(t *testing.T) {
	for _, keep := range []bool{false, true} {
		for _, m := range []api.Module{{}, {Funcs: []api.Code{}}} {
			if u, e := Emit(m, keep); fmt.Sprint(u) != fmt.Sprint(api.Unit{}) || e != api.OK {
				t.Errorf("P17.1: the unit is %+v, the error %d", u, e)
			}
		}
	}
}

// expectRefused checks that there is no unit for a module, but the error of ir.Check.
func expectRefused(t *testing.T, about string, m api.Module, want api.Errno) {
	t.Helper()
	if e := ir.Check(m); e != want {
		t.Fatalf("%s: the error of ir.Check is %d", about, e)
	}
	for _, keep := range []bool{false, true} {
		u, e := result(t, m, keep)
		if e != want || u.Words != nil || u.Funcs != nil || u.Code != 0 {
			t.Errorf("P17.1: %s: the unit is %+v, the error %d", about, u, e)
		}
	}
}

func TestRefusedCodes(t *testing.T) {
	for about, c := range passes.Refused(t) {
		expectRefused(t, about, api.Module{Funcs: []api.Code{c}}, ir.CheckCode(c))
		sound := passes.Parse(t, leaf)
		second := duplicate.Code(c)
		if len(second.Contexts) > 0 {
			second.Contexts[0].Func = 1
		}
		expectRefused(t, about+", in the second function", api.Module{Funcs: []api.Code{sound, second}}, ir.CheckCode(c))
	}
}

// Modules that ir.Check refuses for what its functions are together.
func TestRefusedModules(t *testing.T) {
	for about, texts := range map[string][]string{
		"a call of no function":             {"(1) call 1(v0) 1()\n(1) return v0"},
		"a tail call of no function":        {leaf, "(1) tail 2(v0)"},
		"a call with one argument less":     {"(1) call 1() 1()\n(1) return v0", leaf},
		"a tail call with an argument more": {leaf, "(1) tail 0(v0 v0)"},
		"a context of no function":          {"context 0 7 1\n" + leaf},
	} {
		expectRefused(t, about, passes.ParseModule(t, texts...), api.ErrForm)
	}
	m := passes.ParseModule(t, leaf, leaf)
	m.Funcs[1].Contexts[0].Func = 0
	expectRefused(t, "a function with another number", m, api.ErrForm)
	m = passes.ParseModule(t, leaf, leaf, leaf, leaf, leaf, leaf, leaf, leaf, leaf)
	expectRefused(t, "more functions", m, api.ErrLimit)
	m.Funcs[0].Params = 3
	expectRefused(t, "more functions, one of them of a wrong form", m, api.ErrLimit)
}

// The error of ir.Check comes ahead of the limits.
func TestRefusedLarge(t *testing.T) {
	c := passes.Parse(t, "(1) print v0; return v0")
	for range 5000 {
		c.Blocks[0].Ops = append(c.Blocks[0].Ops, c.Blocks[0].Ops[0])
	}
	other := duplicate.Code(c)
	other.Contexts[0].Func = 1
	m := api.Module{Funcs: []api.Code{c, other}}
	if u, e := result(t, m, false); e != api.ErrLimit || u.Words != nil || u.Funcs != nil || u.Code != 0 {
		t.Errorf("P17.1: the unit is %+v, the error %d", u, e)
	}
	m.Funcs[1].Params = 2
	expectRefused(t, "a wrong form behind too many words", m, api.ErrForm)
}

// Functions and blocks follow one another in order.
func TestAddresses(t *testing.T) {
	for _, keep := range []bool{false, true} {
		u := emitted(t, keep, "(1) jump 2(v0)\n(1) return v0\n(1) jump 1(v0)", "object 0 0 1\n(1) return v0", "(1) v1 = 2147483648; tail 0(v1)")
		expectWords(t, "P17.1", u, 0, "jump 4; move r0 r1; const r13 0; return; jump 1; addimm r14 r14 -1; move r0 r1; const r13 0; addimm r14 r14 1; return; pool r1 12; jump 0; word 2147483648")
		if u.Code != 12 || len(u.Words) != 13 || len(u.Funcs) != 3 {
			t.Fatalf("P17.1: %d words, %d of code, %d functions", len(u.Words), u.Code, len(u.Funcs))
		}
		for f, want := range [][2]int{{0, 5}, {5, 10}, {10, 12}} {
			if got := [2]int{u.Funcs[f].Lo, u.Funcs[f].Hi}; got != want {
				t.Errorf("P17.1: function %d is at %v, not %v", f, got, want)
			}
		}
	}
}

// The pool has each constant once, in the order in which the code needs them.
func TestPool(t *testing.T) {
	a, b, c := "2147483648", "-2147483649", "9223372036854775807"
	for _, keep := range []bool{false, true} {
		expectCode(t, "P17.1", keep, "pool r1 16; pool r2 17; pool r3 16; const r4 2147483647; const r5 -2147483648; print r1; print r2; print r3; print r4; print r5; move r0 r1; const r13 0; return; pool r2 18; pool r2 17; jump 0",
			"word "+a+"; word "+b+"; word "+c,
			"(1) v1 = "+a+"; v2 = "+b+"; v3 = "+a+"; v4 = 2147483647; v5 = -2147483648; print v1; print v2; print v3; print v4; print v5; return v1",
			"(1) v1 = "+c+"; v2 = "+b+"; tail 0(v0)")
	}
}

// What is only shown needs no pool, nor do the constants of the machine code itself.
func TestWithoutPool(t *testing.T) {
	u := emitted(t, false, "(1) bind 0 to constant + 2147483648; bind 1 to v0 + -2147483649; at 3; return v0")
	expectText(t, "P17.1", shown(u.Words), leafCode)
	expectText(t, "P17.7", ranges(u.Funcs[0]), "0-3 0: c2147483648; 0-3 1: r1+-2147483649 e1+-2147483649")
}
