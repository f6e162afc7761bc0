package passes

import (
	"testing"

	"debugger/api"
	"debugger/duplicate"
	"debugger/ir"
)

// carefulModule makes a pass over modules of a change.
func carefulModule(change func(m *api.Module)) ModulePass {
	return func(m api.Module) api.Module {
		if ir.Check(m) == api.OK {
			m = duplicate.Module(m)
			change(&m)
		}
		return m
	}
}

// negligentModule makes one of a change that does not ask whether a module is sound.
func negligentModule(change func(m *api.Module)) ModulePass {
	return func(m api.Module) api.Module {
		m = duplicate.Module(m)
		change(&m)
		return m
	}
}

func turnFirst(m *api.Module)   { turn(&m.Funcs[0]) }
func spareModule(m *api.Module) {}

func TestParseModule(t *testing.T) {
	m := ParseModule(t, text, "context 0 3 0\n"+text)
	if len(m.Funcs) != 2 || m.Funcs[1].Contexts[0].Func != 1 || m.Funcs[1].Contexts[1].Stmt != 3 {
		t.Errorf("the module is %+v", m)
	}
	if got, want := PrintModule(m), text+"\n--\nfunc 1\ncontext 0 3 0\n"+text+"\n--\n"; got != want {
		t.Errorf("the module is\n%s\nnot\n%s", got, want)
	}
	expectTold(t, "no code", func(t Tester) { ParseModule(t, text, "(1) x") }, "(1) x is no code")
}

func TestEach(t *testing.T) {
	m := ParseModule(t, text, text)
	got := Each(careful(turn))(m)
	if len(got.Funcs) != 2 || got.Funcs[1].Blocks[0].Term.Kind != api.TermReturn || m.Funcs[1].Blocks[0].Term.Kind != api.TermJump {
		t.Errorf("the module becomes %+v", got)
	}
}

func TestExpectModule(t *testing.T) {
	texts := []string{text, "(0) tail 0()"}
	for about, c := range map[string]struct {
		pass ModulePass
		want []string
	}{
		"the right result":   {carefulModule(spareModule), nil},
		"a wrong result":     {carefulModule(turnFirst), []string{"P1.2:\n" + text}},
		"a function less":    {carefulModule(func(m *api.Module) { m.Funcs = m.Funcs[:1] }), []string{"P1.2:\n" + text}},
		"an unsound result":  {carefulModule(func(m *api.Module) { m.Funcs[1].Contexts[0].Func = 0 }), []string{"P1.2: ", "P1.2:\n"}},
		"a changed argument": {func(m api.Module) api.Module { m.Funcs[0].Params = 3; return m }, []string{"P2: the argument"}},
	} {
		texts[1] = "(1) tail 0(v0)"
		expectTold(t, about, func(t Tester) { ExpectModule(t, "P1.2", c.pass, texts, texts) }, c.want...)
	}
	expectTold(t, "a module that is not sound", func(t Tester) {
		ExpectModule(t, "P1.2", carefulModule(spareModule), []string{"(0) tail 1()"}, texts)
	}, "P1.2: the error of (0) tail 1()\n--\nis 4")
}

func TestAppliedModule(t *testing.T) {
	m := ParseModule(t, text, text)
	got := AppliedModule(t, "P1.2", carefulModule(turnFirst), carefulModule(turnFirst), m)
	if got.Funcs[0].Blocks[0].Term.Kind != api.TermReturn {
		t.Errorf("the module becomes %+v", got)
	}
	expectTold(t, "another pass", func(t Tester) {
		AppliedModule(t, "P1.2", carefulModule(turnFirst), carefulModule(spareModule), m)
	}, "P1.2:\n"+text)
}

func TestExpectRefusedModules(t *testing.T) {
	m := ParseModule(t, text, text)
	expectTold(t, "a careful pass", func(t Tester) { ExpectRefusedModules(t, "P1.2", carefulModule(turnFirst), m) })
	expectTold(t, "an idle pass", func(t Tester) { ExpectRefusedModules(t, "P1.2", carefulModule(spareModule), m) }, "P1.2: the pass does nothing")
	expectTold(t, "a pass for small modules", func(t Tester) {
		ExpectRefusedModules(t, "P1.2", carefulModule(func(m *api.Module) {
			if len(m.Funcs) < 3 {
				turnFirst(m)
			}
		}), m)
	}, "P1.2: the pass does nothing")
	r := &recorder{}
	ExpectRefusedModules(r, "P1.2", negligentModule(turnFirst), m)
	if want := len(wrong()) + len(wrongModules()) + 2; len(r.told) != want {
		t.Errorf("a negligent pass: %d modules are told, not %d", len(r.told), want)
	}
}

func TestExpectNewModule(t *testing.T) {
	var kept []api.Code
	for about, c := range map[string]struct {
		pass ModulePass
		want []string
	}{
		"a sound pass":        {carefulModule(turnFirst), nil},
		"the argument itself": {func(m api.Module) api.Module { return m }, []string{"P2: two slices", "P2: the argument"}},
		"a code that is there twice": {carefulModule(func(m *api.Module) {
			m.Funcs[1].Contexts = m.Funcs[0].Contexts
		}), []string{"P2: two slices"}},
		"functions that are kept": {carefulModule(func(m *api.Module) {
			if kept == nil {
				kept = m.Funcs
			}
			m.Funcs = kept
		}), []string{"P2: two slices", "P3: the result", "P2: spare capacity"}},
		"changed spare capacity": {func(m api.Module) api.Module {
			_ = append(m.Funcs, api.Code{Params: 1})
			return duplicate.Module(m)
		}, []string{"P2: the argument"}},
		"codes of the argument": {func(m api.Module) api.Module {
			return api.Module{Funcs: append([]api.Code(nil), m.Funcs...)}
		}, []string{"P2: two slices", "P2: the argument"}},
	} {
		expectTold(t, about, func(t Tester) { ExpectNewModule(t, c.pass, ParseModule(t, text, text)) }, c.want...)
	}
}
