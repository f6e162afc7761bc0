package passes

import (
	"debugger/api"
	"debugger/duplicate"
	"debugger/ir"
	"debugger/notation"
)

// ModulePass makes another module of a module.
type ModulePass func(api.Module) api.Module

// Each returns the pass that makes another code of each function of a module.
func Each(pass Pass) ModulePass {
	return func(m api.Module) api.Module {
		result := api.Module{}
		for _, c := range m.Funcs {
			result.Funcs = append(result.Funcs, pass(c))
		}
		return result
	}
}

// ParseModule returns the module of some texts of package notation, each the code of a function, in their order; the functions get their numbers.
func ParseModule(t Tester, texts ...string) api.Module {
	t.Helper()
	m := api.Module{}
	for f, text := range texts {
		c := Parse(t, text)
		c.Contexts[0].Func = f
		m.Funcs = append(m.Funcs, c)
	}
	return m
}

// PrintModule returns a module as a text.
func PrintModule(m api.Module) string {
	text := ""
	for _, c := range m.Funcs {
		text += notation.Print(c) + "--\n"
	}
	return text
}

// shownModule returns a module as a text, or the beginning of a long one.
func shownModule(m api.Module) string { return short(PrintModule(m)) }

// ModuleResult returns what a pass makes of a sound module, and checks that this is sound as well and that the argument stays as it is.
func ModuleResult(t Tester, promise string, pass ModulePass, m api.Module) api.Module {
	t.Helper()
	if e := ir.Check(m); e != api.OK {
		t.Fatal(promise + ": the error of " + shownModule(m) + "is " + number(e))
	}
	before := duplicate.Module(stretchedModule(m))
	got := pass(m)
	if !EqualModules(stretchedModule(m), before) {
		t.Fatal("P2: the argument " + shownModule(before) + "is changed")
	}
	if e := ir.Check(got); e != api.OK {
		t.Error(promise + ": " + shownModule(m) + "becomes\n" + shownModule(got) + "whose error is " + number(e))
	}
	return got
}

// ExpectModule checks what a pass makes of a module, both as the texts of its functions.
func ExpectModule(t Tester, promise string, pass ModulePass, from, want []string) {
	t.Helper()
	expectModule(t, promise, pass, ParseModule(t, from...), ParseModule(t, want...))
}

func expectModule(t Tester, promise string, pass ModulePass, m, want api.Module) {
	t.Helper()
	if got := ModuleResult(t, promise, pass, m); !EqualModules(got, want) {
		t.Fatal(promise + ":\n" + PrintModule(m) + "becomes\n" + PrintModule(got) + "not\n" + PrintModule(want))
	}
}

// AppliedModule returns what a pass makes of a sound module. It checks that this is what a second implementation of the pass makes of it, and sound.
func AppliedModule(t Tester, promise string, pass, reckon ModulePass, m api.Module) api.Module {
	t.Helper()
	want := reckon(m)
	expectModule(t, promise, pass, m, want)
	return want
}
