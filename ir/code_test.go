package ir

import (
	"fmt"
	"slices"
	"strings"
	"testing"

	"debugger/api"
)

// rich has every kind of operation, source, terminator and edge.
const rich = `context 0 4 3
context 1 9999 7
object 0 1 8
object 1 2 1
(2) v2 = 7; v3 = copy v2; v4 = v0 + v3; v5 = load 1 v4; bind 1.3 in 2 to v6 + 5; mark 9999 in 2; v6 = v4 - v1; bind 0 to entry 1 + 2; branch v6 1(v0 v6) 2()
(2) store 0 v0 v1; zero 1; print v0; at 0; bind 23 to nowhere; bind 0 to constant + -7; bind 0 to v1; jump 3(v1 v1 v0)
(0) v0 = 1; call 7(v0 v0 v0 v0) 3(v0 v0) 1(v0)
(3) v9999 = 3; call 0() 4()
(1) call 1(v0) 4() 5()
(1) v1 = v0 == v0; branch v1 4(v0) 6()
(0) v0 = 8; jump 7(v0)
(1) tail 2(v0)
(0) v1 = 8; return v1
(1) throw v0
`

// expectCode checks the error of a code.
func expectCode(t *testing.T, about string, c api.Code, want api.Errno) {
	t.Helper()
	if got := CheckCode(c); got != want {
		t.Errorf("P6.1: %s: the error is %d, not %d", about, got, want)
	}
}

func TestSound(t *testing.T) {
	for _, text := range []string{
		rich,
		"(0) v0 = 1; return v0",
		"(1) return v0",
		"(4) throw v3",
		"(0) jump 1()\n(0) jump 1()",
		"func 7\n(0) tail 7()",
	} {
		expectCode(t, text, code(t, text), api.OK)
	}
}

// blocks returns a code of so many blocks that jump to each other, with so many operations in all.
func blocks(n, ops int) api.Code {
	c := api.Code{Contexts: []api.Context{{Parent: -1, Stmt: -1}}}
	for i := range n {
		jump := api.Term{Kind: api.TermJump, To: [2]api.Edge{{Block: min(i+1, n-1)}, {Block: -1}}}
		c.Blocks = append(c.Blocks, api.Block{Ops: slices.Repeat([]api.Op{{Kind: api.OpMark}}, ops/n), Term: jump})
	}
	for range ops % n {
		c.Blocks[n-1].Ops = append(c.Blocks[n-1].Ops, api.Op{Kind: api.OpMark})
	}
	return c
}

// crowded returns a code with so many contexts and objects.
func crowded(contexts, objects int) api.Code {
	c := blocks(2, 0)
	for len(c.Contexts) < contexts {
		c.Contexts = append(c.Contexts, api.Context{})
	}
	for i := range objects {
		c.Objects = append(c.Objects, api.Object{Ctx: i % contexts, Var: i / contexts, Words: 1})
	}
	return c
}

func TestLimits(t *testing.T) {
	badForm := func(c api.Code) api.Code {
		c.Params = -1
		return c
	}
	for about, c := range map[string]api.Code{
		"blocks":                   blocks(api.MaxBlocks, 0),
		"operations":               blocks(2, api.MaxOps),
		"operations of many":       blocks(7, api.MaxOps),
		"operations and blocks":    blocks(api.MaxBlocks, api.MaxOps),
		"contexts":                 crowded(64, 0),
		"objects":                  crowded(3, 64),
		"as many of all":           crowded(64, 64),
		"a chain of all contexts":  code(t, chain(64)+"(0) v0 = 1; return v0"),
		"operations in block 1":    code(t, "(0) jump 1()\n(0) "+strings.Repeat("mark 0; ", api.MaxOps)+"jump 1()"),
		"operations of any number": code(t, "(0) "+strings.Repeat("zero 0; ", api.MaxOps-1)+"v0 = 1; return v0\nobject 0 0 1"),
	} {
		expectCode(t, about, c, api.OK)
		expectCode(t, about+" in a bad form", badForm(c), api.ErrForm)
	}
	for about, c := range map[string]api.Code{
		"blocks":                blocks(api.MaxBlocks+1, 0),
		"operations":            blocks(2, api.MaxOps+1),
		"operations of many":    blocks(7, api.MaxOps+1),
		"operations in block 1": code(t, "(0) jump 1()\n(0) "+strings.Repeat("mark 0; ", api.MaxOps+1)+"jump 1()"),
		"contexts":              crowded(65, 0),
		"objects":               crowded(3, 65),
		"contexts only":         {Contexts: make([]api.Context, 65)},
		"objects only":          {Objects: make([]api.Object, 65)},
		"blocks only":           {Blocks: make([]api.Block, api.MaxBlocks+1)},
		"operations only":       {Blocks: []api.Block{{Ops: make([]api.Op, api.MaxOps)}, {Ops: make([]api.Op, 1)}}},
	} {
		expectCode(t, about, c, api.ErrLimit)
		expectCode(t, about+" in a bad form", badForm(c), api.ErrLimit)
	}
}

// chain returns the lines of so many contexts, each within the one ahead of it.
func chain(n int) string {
	text := ""
	for i := 1; i < n; i++ {
		text += fmt.Sprintf("context %d 1 0\n", i-1)
	}
	return text
}

// expectChanges checks the error of a code after a number in it became each of some others, and that it is sound with what it was before.
func expectChanges(t *testing.T, about, text string, field func(*api.Code) *int, want api.Errno, numbers ...int) {
	t.Helper()
	for _, n := range numbers {
		c := code(t, text)
		expectCode(t, about, c, api.OK)
		*field(&c) = n
		expectCode(t, fmt.Sprintf("%s %d", about, n), c, want)
	}
}

func TestParams(t *testing.T) {
	params := func(c *api.Code) *int { return &c.Params }
	first := func(c *api.Code) *int { return &c.Blocks[0].Params }
	second := func(c *api.Code) *int { return &c.Blocks[1].Params }
	const text = "(2) v9999 = 1; jump 2()\n(0) v9999 = 2; return v9999\n(0) jump 2()"
	expectChanges(t, "Params", text, params, api.ErrForm, least, -1, 0, 1, 3, 4, 5, greatest)
	expectChanges(t, "Params of block 0", text, first, api.ErrForm, least, -1, 0, 1, 3, 4, 5, 999, 1000, greatest)
	expectChanges(t, "Params of block 1", text, second, api.OK, 1, 5, 24, 999)
	expectChanges(t, "Params of block 1", text, second, api.ErrForm, least, -1, 1000, greatest)
	for n := -1; n < 7; n++ {
		c := code(t, "(0) v10 = 1; return v10")
		c.Params, c.Blocks[0].Params = n, n
		want := api.ErrForm
		if n >= 0 && n <= api.MaxParams {
			want = api.OK
		}
		expectCode(t, fmt.Sprintf("%d parameters", n), c, want)
	}
	expectCode(t, "no block", code(t, ""), api.ErrForm)
	expectCode(t, "nothing", api.Code{}, api.ErrForm)
	// Block 0 has the right arguments for the edges that may not lead to it.
	for _, term := range []string{"jump N(v0)", "branch v0 N(v0) 2(v0)", "branch v0 2(v0) N(v0)", "call 0() N()", "call 0() N() 2()", "call 0() 2() N()"} {
		for block, want := range map[string]api.Errno{"0": api.ErrForm, "1": api.OK, "2": api.OK} {
			term := strings.ReplaceAll(term, "N", block)
			expectCode(t, term, code(t, "(1) jump 1(v0)\n(1) "+term+"\n(1) return v0"), want)
			expectCode(t, term, code(t, "(1) "+term+"\n(1) return v0\n(1) return v0"), want)
		}
	}
	expectCode(t, "block 0 to itself", code(t, "(0) jump 0()"), api.ErrForm)
}

func TestContexts(t *testing.T) {
	const text = "context 0 5 2\ncontext 0 6 3\ncontext 1 7 4\n(0) v0 = 1; return v0"
	zero := func(c *api.Code) *api.Context { return &c.Contexts[0] }
	last := func(c *api.Code) *api.Context { return &c.Contexts[3] }
	expectChanges(t, "Parent of context 0", text, func(c *api.Code) *int { return &zero(c).Parent }, api.ErrForm, least, -2, 0, 1, greatest)
	expectChanges(t, "Stmt of context 0", text, func(c *api.Code) *int { return &zero(c).Stmt }, api.ErrForm, least, -2, 0, 1, greatest)
	expectChanges(t, "Func of context 0", text, func(c *api.Code) *int { return &zero(c).Func }, api.OK, 0, 7)
	expectChanges(t, "Func of context 0", text, func(c *api.Code) *int { return &zero(c).Func }, api.ErrForm, least, -1, 8, greatest)
	expectChanges(t, "Parent of context 3", text, func(c *api.Code) *int { return &last(c).Parent }, api.OK, 0, 1, 2)
	expectChanges(t, "Parent of context 3", text, func(c *api.Code) *int { return &last(c).Parent }, api.ErrForm, least, -1, 3, 4, greatest)
	expectChanges(t, "Parent of context 1", text, func(c *api.Code) *int { return &c.Contexts[1].Parent }, api.ErrForm, -1, 1, 2)
	expectChanges(t, "Stmt of context 3", text, func(c *api.Code) *int { return &last(c).Stmt }, api.OK, 0, 9999)
	expectChanges(t, "Stmt of context 3", text, func(c *api.Code) *int { return &last(c).Stmt }, api.ErrForm, least, -1, 10000, greatest)
	expectChanges(t, "Func of context 3", text, func(c *api.Code) *int { return &last(c).Func }, api.OK, 0, 7)
	expectChanges(t, "Func of context 3", text, func(c *api.Code) *int { return &last(c).Func }, api.ErrForm, least, -1, 8, greatest)
	none := code(t, "(0) v0 = 1; return v0")
	none.Contexts = nil
	expectCode(t, "no context", none, api.ErrForm)
}

func TestObjects(t *testing.T) {
	const text = "context 0 5 2\nobject 0 1 4\nobject 1 2 8\nobject 0 3 1\n(0) v0 = 1; return v0"
	last := func(c *api.Code) *api.Object { return &c.Objects[2] }
	expectChanges(t, "Ctx of an object", text, func(c *api.Code) *int { return &last(c).Ctx }, api.OK, 1)
	expectChanges(t, "Ctx of an object", text, func(c *api.Code) *int { return &last(c).Ctx }, api.ErrForm, least, -1, 2, greatest)
	expectChanges(t, "Var of an object", text, func(c *api.Code) *int { return &last(c).Var }, api.OK, 0, 2, api.MaxVars-1)
	expectChanges(t, "Var of an object", text, func(c *api.Code) *int { return &last(c).Var }, api.ErrForm, least, -1, api.MaxVars, greatest)
	expectChanges(t, "Words of an object", text, func(c *api.Code) *int { return &last(c).Words }, api.OK, 1, api.MaxLen)
	expectChanges(t, "Words of an object", text, func(c *api.Code) *int { return &last(c).Words }, api.ErrForm, least, -1, 0, api.MaxLen+1, greatest)
	expectChanges(t, "Var of another object", text, func(c *api.Code) *int { return &last(c).Var }, api.ErrForm, 1)
	for objects, want := range map[string]api.Errno{
		"object 0 1 4\nobject 0 1 4\n":               api.ErrForm,
		"object 0 1 4\nobject 0 1 5\n":               api.ErrForm,
		"object 0 1 4\nobject 1 1 4\n":               api.OK,
		"object 0 1 4\nobject 0 2 4\n":               api.OK,
		"object 0 1 4\nobject 1 0 4\n":               api.OK,
		"object 1 1 4\nobject 0 2 4\nobject 1 1 4\n": api.ErrForm,
	} {
		expectCode(t, objects, code(t, "context 0 5 2\n"+objects+"(0) v0 = 1; return v0"), want)
	}
}
