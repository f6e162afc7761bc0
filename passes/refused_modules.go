package passes

import (
	"debugger/api"
	"debugger/duplicate"
	"debugger/ir"
)

// ExpectRefusedModules checks that a pass changes a module, also with a function of the code of Sound behind its own, and that it returns what becomes of that if something is wrong as it is.
func ExpectRefusedModules(t Tester, promise string, pass ModulePass, m api.Module) {
	t.Helper()
	last := len(m.Funcs)
	with := func(change func(m *api.Module, c *api.Code)) api.Module {
		other := duplicate.Module(m)
		c := Parse(t, Sound)
		c.Contexts[0].Func = last
		for i := range c.Blocks {
			if end := &c.Blocks[i].Term; end.Kind == api.TermCall {
				end.N = last
			}
		}
		other.Funcs = append(other.Funcs, c)
		change(&other, &other.Funcs[last])
		return other
	}
	whole := with(func(*api.Module, *api.Code) {})
	for _, x := range []api.Module{m, whole} {
		if EqualModules(ModuleResult(t, promise, pass, x), x) {
			t.Fatal(promise + ": the pass does nothing with " + shownModule(x))
		}
	}
	refuse := func(about string, m api.Module, want api.Errno) {
		t.Helper()
		if e := ir.Check(m); e != want {
			t.Fatal(promise + ": " + about + ": the error is " + number(e))
		}
		expectKept(t, promise, pass, about, m)
	}
	for about, change := range wrong() {
		refuse(about, with(func(_ *api.Module, c *api.Code) { change(c) }), api.ErrForm)
	}
	for about, change := range wrongModules() {
		refuse(about, with(change), api.ErrForm)
	}
	refuse("more blocks", with(func(_ *api.Module, c *api.Code) {
		*c = Large(t, api.MaxBlocks+1, 1, 1, 0)
	}), api.ErrLimit)
	refuse("more functions", with(func(m *api.Module, c *api.Code) {
		for len(m.Funcs) <= api.MaxFuncs {
			m.Funcs = append(m.Funcs, duplicate.Code(*c))
		}
	}), api.ErrLimit)
}

// wrongModules returns the changes of a module, or of its last code, which is that of Sound, that ir.Check alone refuses, by what they lead to.
func wrongModules() map[string]func(*api.Module, *api.Code) {
	end := func(c *api.Code, kind, f int, args ...int) {
		t := api.Term{Kind: kind, N: f, Args: args, To: [2]api.Edge{{Block: -1}, {Block: -1}}}
		if kind == api.TermCall {
			t.To[0].Block = 1
		}
		c.Blocks[3].Term = t
	}
	return map[string]func(*api.Module, *api.Code){
		"a tail call of no function":                func(m *api.Module, c *api.Code) { end(c, api.TermTail, len(m.Funcs), 0, 0) },
		"a tail call with one argument less":        func(m *api.Module, c *api.Code) { end(c, api.TermTail, len(m.Funcs)-1, 0) },
		"a call of no function":                     func(m *api.Module, c *api.Code) { end(c, api.TermCall, len(m.Funcs), 0, 0) },
		"a call with one argument less":             func(m *api.Module, c *api.Code) { end(c, api.TermCall, len(m.Funcs)-1, 0) },
		"a call with one argument more":             func(m *api.Module, c *api.Code) { end(c, api.TermCall, len(m.Funcs)-1, 0, 0, 0) },
		"a function with another number":            func(m *api.Module, c *api.Code) { c.Contexts[0].Func = len(m.Funcs) % api.MaxFuncs },
		"a context of a function that is not there": func(m *api.Module, c *api.Code) { c.Contexts = append(c.Contexts, api.Context{Func: len(m.Funcs)}) },
	}
}
