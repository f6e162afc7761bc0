package passes

import (
	"iter"

	"debugger/api"
	"debugger/duplicate"
	"debugger/ir"
)

// Sound is a code, as a text of package notation, that each pass changes.
const Sound = `object 0 0 2
(2) v2 = 0; v3 = v0 + v2; v4 = copy v3; bind 0 to v4; bind 1 to v2; branch v2 1(v4) 2(v3 v2)
(1) v1 = 6; v2 = v1 * v1; v3 = copy v0; jump 3(v3)
(2) v2 = copy v0; print v2; return v1
(1) v1 = 5; v2 = v1 * v1; v3 = copy v0; return v3
(1) branch v0 4(v0) 5(v0)
(1) jump 4(v0)
(1) call 0(v0 v0) 7()
(1) at 3; return v0
`

// Large returns the code of Sound with so many blocks, contexts, objects and operations. Block 3 of Sound is repeated, and copies are put behind the operations of block 0.
func Large(t Tester, blocks, contexts, objects, ops int) api.Code {
	t.Helper()
	c := Parse(t, Sound)
	for len(c.Blocks) < blocks {
		c.Blocks = append(c.Blocks, duplicate.Block(c.Blocks[3]))
	}
	for len(c.Contexts) < contexts {
		c.Contexts = append(c.Contexts, api.Context{})
	}
	for v := len(c.Objects); v < objects; v++ {
		c.Objects = append(c.Objects, api.Object{Ctx: v / api.MaxVars, Var: v % api.MaxVars, Words: 1})
	}
	for _, b := range c.Blocks {
		ops -= len(b.Ops)
	}
	for v := range max(ops, 0) {
		c.Blocks[0].Ops = append(c.Blocks[0].Ops, api.Op{Kind: api.OpCopy, Dst: 5 + v, A: 4 + v})
	}
	return c
}

// Largest returns the code of Sound with as much of everything as ir.CheckCode accepts.
func Largest(t Tester) api.Code {
	t.Helper()
	return Large(t, api.MaxBlocks, 64, 64, api.MaxOps)
}

// ExpectRefused checks that a pass changes Sound and Largest, and that it returns what ir.CheckCode refuses as it is.
func ExpectRefused(t Tester, promise string, pass Pass) {
	t.Helper()
	for _, c := range []api.Code{Parse(t, Sound), Largest(t)} {
		if Equal(Result(t, promise, pass, c), c) {
			t.Fatal(promise + ": the pass does nothing with " + shown(c))
		}
	}
	for about, c := range Refused(t) {
		expectKept(t, promise, Each(pass), about, api.Module{Funcs: []api.Code{c}})
	}
}

// Refused goes through codes that ir.CheckCode refuses, with what is wrong with them.
func Refused(t Tester) iter.Seq2[string, api.Code] {
	return func(yield func(string, api.Code) bool) {
		t.Helper()
		for about, change := range wrong() {
			c := Parse(t, Sound)
			change(&c)
			if !yield(about, refused(t, about, c, api.ErrForm)) {
				return
			}
		}
		_ = yield("nothing", refused(t, "nothing", api.Code{}, api.ErrForm)) &&
			yield("more blocks", refused(t, "more blocks", Large(t, api.MaxBlocks+1, 1, 1, 0), api.ErrLimit)) &&
			yield("more contexts", refused(t, "more contexts", Large(t, 4, 65, 1, 0), api.ErrLimit)) &&
			yield("more objects", refused(t, "more objects", Large(t, 4, 3, 65, 0), api.ErrLimit)) &&
			yield("more operations", refused(t, "more operations", Large(t, 4, 1, 1, api.MaxOps+1), api.ErrLimit))
	}
}

// refused returns a code for which ir.CheckCode has an error.
func refused(t Tester, about string, c api.Code, want api.Errno) api.Code {
	t.Helper()
	if e := ir.CheckCode(c); e != want {
		t.Fatal(about + ": the error is " + number(e))
	}
	return c
}

// expectKept checks that a pass returns a module as it is.
func expectKept(t Tester, promise string, pass ModulePass, about string, m api.Module) {
	t.Helper()
	m = roomyModule(m)
	before := duplicate.Module(stretchedModule(m))
	if got := pass(m); !EqualModules(got, m) {
		t.Error(promise + ": " + about + ": the code becomes " + shownModule(got))
	}
	if !EqualModules(stretchedModule(m), before) {
		t.Error("P2: " + about + ": the code is changed")
	}
}

// wrong returns the changes of Sound that ir.CheckCode refuses, by what they lead to.
func wrong() map[string]func(*api.Code) {
	return map[string]func(*api.Code){
		"another number of parameters":  func(c *api.Code) { c.Params = 1 },
		"too many parameters":           func(c *api.Code) { c.Blocks[3].Params = 1000 },
		"no block":                      func(c *api.Code) { c.Blocks = nil },
		"no context":                    func(c *api.Code) { c.Contexts = nil },
		"a context with a parent":       func(c *api.Code) { c.Contexts[0].Parent = 0 },
		"an object of another context":  func(c *api.Code) { c.Objects[0].Ctx = 1 },
		"an object without words":       func(c *api.Code) { c.Objects[0].Words = 0 },
		"no kind of operation":          func(c *api.Code) { c.Blocks[1].Ops[0].Kind = 0 },
		"an unknown kind of operation":  func(c *api.Code) { c.Blocks[1].Ops[2].Kind = api.OpBind + 1 },
		"a field that is not used":      func(c *api.Code) { c.Blocks[1].Ops[1].N = 1 },
		"a value that is defined twice": func(c *api.Code) { c.Blocks[0].Ops[2].Dst = 3 },
		"a parameter that is defined":   func(c *api.Code) { c.Blocks[0].Ops[2].Dst = 1 },
		"a number that is too great":    func(c *api.Code) { c.Blocks[3].Ops[1].Dst = 10000 },
		"a value that is defined later": func(c *api.Code) { c.Blocks[1].Ops[1].A = 3 },
		"a value that is not defined":   func(c *api.Code) { c.Blocks[1].Ops[1].B = -1 },
		"a Bind to a value of nothing":  func(c *api.Code) { c.Blocks[0].Ops[3].Src.Val = 5 },
		"a Bind of an unknown kind":     func(c *api.Code) { c.Blocks[0].Ops[3].Src.Kind = 4 },
		"a Bind in an unknown context":  func(c *api.Code) { c.Blocks[0].Ops[3].Ctx = 1 },
		"an edge to the first block":    func(c *api.Code) { c.Blocks[0].Term.To[0] = api.Edge{Args: []int{0, 1}} },
		"an edge to no block":           func(c *api.Code) { c.Blocks[0].Term.To[1].Block = 8 },
		"an edge with more arguments":   func(c *api.Code) { c.Blocks[0].Term.To[1].Args = []int{0, 1, 0} },
		"a jump with less arguments":    func(c *api.Code) { c.Blocks[1].Term.To[0].Args = nil },
		"a jump with an unknown value":  func(c *api.Code) { c.Blocks[1].Term.To[0].Args = []int{4} },
		"a jump with a second edge":     func(c *api.Code) { c.Blocks[1].Term.To[1].Block = 2 },
		"a branch on no value":          func(c *api.Code) { c.Blocks[0].Term.A = 5 },
		"no kind of terminator":         func(c *api.Code) { c.Blocks[2].Term.Kind = 0 },
		"an unknown kind of terminator": func(c *api.Code) { c.Blocks[2].Term.Kind = api.TermTail + 1 },
		"an edge where there is none":   func(c *api.Code) { c.Blocks[2].Term.To[0].Block = 0 },
		"an argument where there is no": func(c *api.Code) { c.Blocks[2].Term.Args = []int{0} },
	}
}
