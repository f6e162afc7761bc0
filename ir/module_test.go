package ir

import (
	"slices"
	"testing"

	"debugger/api"
)

// expectModule checks the error of a module.
func expectModule(t *testing.T, about string, m api.Module, want api.Errno) {
	t.Helper()
	if got := Check(m); got != want {
		t.Errorf("P6.2: %s: the error is %d, not %d", about, got, want)
	}
}

const (
	plain = "(0) v0 = 1; return v0"
	one   = "(1) return v0"
	two   = "(2) return v0"
	bad   = "(0) return v0"
)

// tooMany has one operation more than it may have.
func tooMany(t *testing.T) api.Code {
	c := code(t, plain)
	c.Blocks[0].Ops = append(slices.Repeat([]api.Op{{Kind: api.OpMark}}, api.MaxOps), c.Blocks[0].Ops...)
	return c
}

func TestModules(t *testing.T) {
	full := slices.Repeat([]string{plain}, api.MaxFuncs)
	expectModule(t, "no function", api.Module{}, api.OK)
	expectModule(t, "a function", module(t, plain), api.OK)
	expectModule(t, "as many as may be", module(t, full...), api.OK)
	expectModule(t, "too many", module(t, append(full, plain)...), api.ErrLimit)
	for f := range api.MaxFuncs {
		texts := slices.Clone(full)
		texts[f] = bad
		expectModule(t, "a function in a bad form", module(t, texts...), api.ErrForm)
		expectModule(t, "too many, one of them in a bad form", module(t, append(texts, plain)...), api.ErrLimit)
		m := module(t, full...)
		m.Funcs[f] = tooMany(t)
		expectModule(t, "a function that is too large", m, api.ErrLimit)
		// The first error of a function decides, and it comes ahead of the ones between functions.
		expectModule(t, "a bad form behind it", withLast(m, code(t, bad)), errorOf(f < api.MaxFuncs-1, api.ErrLimit))
		expectModule(t, "a bad form ahead of it", withFirst(m, code(t, bad)), api.ErrForm)
		expectModule(t, "a wrong call behind it", withLast(m, code(t, "(0) tail 7(v0)")), errorOf(f < api.MaxFuncs-1, api.ErrLimit))
		expectModule(t, "a wrong context ahead of it", withFirst(m, code(t, "func 3\n"+plain)), errorOf(f > 0, api.ErrLimit))
	}
}

// errorOf returns an error where a condition holds, and ErrForm otherwise.
func errorOf(holds bool, e api.Errno) api.Errno {
	if holds {
		return e
	}
	return api.ErrForm
}

func withFirst(m api.Module, c api.Code) api.Module {
	return api.Module{Funcs: append([]api.Code{c}, m.Funcs[1:]...)}
}

func withLast(m api.Module, c api.Code) api.Module {
	return api.Module{Funcs: append(slices.Clone(m.Funcs[:len(m.Funcs)-1]), c)}
}

func TestCallsOfModules(t *testing.T) {
	for call, want := range map[string]api.Errno{
		"tail 0()":              api.OK,
		"tail 1(v0)":            api.OK,
		"tail 2(v0 v0)":         api.OK,
		"tail 3()":              api.ErrForm,
		"tail 7()":              api.ErrForm,
		"tail 0(v0)":            api.ErrForm,
		"tail 1()":              api.ErrForm,
		"tail 1(v0 v0)":         api.ErrForm,
		"tail 2(v0)":            api.ErrForm,
		"tail 2(v0 v0 v0)":      api.ErrForm,
		"call 0() 1()":          api.OK,
		"call 1(v0) 1()":        api.OK,
		"call 2(v0 v0) 1() 1()": api.OK,
		"call 3() 1()":          api.ErrForm,
		"call 7() 1()":          api.ErrForm,
		"call 0(v0) 1()":        api.ErrForm,
		"call 1() 1()":          api.ErrForm,
		"call 1(v0 v0) 1()":     api.ErrForm,
		"call 2(v0) 1() 1()":    api.ErrForm,
		"call 2(v0 v0 v0) 1()":  api.ErrForm,
	} {
		caller := "(0) v0 = 1; " + call + "\n(1) return v0"
		expectModule(t, call, module(t, caller, one, two), want)
		expectModule(t, call+" in a later block", module(t, "(0) v0 = 1; jump 2()\n(1) return v0\n(0) v0 = 1; "+call, one, two), want)
		expectModule(t, call+" of a later function", module(t, plain, one, two, caller), wantOfLast(call, want))
	}
	// The number of a terminator that is no call is no number of a function.
	expectModule(t, "a branch", module(t, "(1) branch v0 1(v0) 1(v0)\n"+one), api.OK)
}

// wantOfLast is the error of a call where there is a function 3, which has no parameters.
func wantOfLast(call string, want api.Errno) api.Errno {
	if call == "tail 3()" || call == "call 3() 1()" {
		return api.OK
	}
	return want
}

func TestContextsOfModules(t *testing.T) {
	with := func(contexts string) api.Code { return code(t, contexts+plain) }
	for _, c := range []struct {
		about string
		funcs []api.Code
		want  api.Errno
	}{
		{"right ones", []api.Code{with("func 0\n"), with("func 1\n")}, api.OK},
		{"both 0", []api.Code{with("func 0\n"), with("func 0\n")}, api.ErrForm},
		{"both 1", []api.Code{with("func 1\n"), with("func 1\n")}, api.ErrForm},
		{"changed", []api.Code{with("func 1\n"), with("func 0\n")}, api.ErrForm},
		{"one too high", []api.Code{with("func 0\n"), with("func 2\n")}, api.ErrForm},
		{"others", []api.Code{with("context 0 1 1\ncontext 1 1 0\n"), with("func 1\n")}, api.OK},
		{"others of itself", []api.Code{with("context 0 1 0\n")}, api.OK},
		{"others that are not there", []api.Code{with("context 0 1 1\ncontext 1 1 2\n"), with("func 1\n")}, api.ErrForm},
		{"others of a later function", []api.Code{with(""), with("func 1\ncontext 0 1 2\n")}, api.ErrForm},
		{"others that are last", []api.Code{with(""), with("func 1\ncontext 0 1 1\ncontext 0 1 0\n")}, api.OK},
	} {
		expectModule(t, "contexts: "+c.about, api.Module{Funcs: c.funcs}, c.want)
	}
}
