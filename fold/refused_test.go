package fold

import (
	"testing"

	"debugger/api"
	"debugger/ir"
)

// expectRefused checks that a code comes back as it is because ir.CheckCode refuses it.
func expectRefused(t *testing.T, about string, c api.Code, want api.Errno) {
	t.Helper()
	if e := ir.CheckCode(c); e != want {
		t.Fatalf("P8.1: %s: the error is %d", about, e)
	}
	before := key(c)
	if got := Fold(c); key(got) != before {
		t.Errorf("P8.1: %s: the code becomes %.400s", about, key(got))
	}
}

// sure has much to fold in each of its blocks.
const sure = "object 0 0 2\n(2) v2 = 0; v3 = v0 + v2; v4 = copy v3; bind 0 to v4; bind 1 to v2; branch v2 1(v4) 1(v3)\n(1) v1 = 6; v2 = v1 * v1; v3 = copy v0; return v3"

func TestRefused(t *testing.T) {
	if c := code(t, sure); key(folded(t, "P8.1", c)) == key(c) {
		t.Fatal("P8.1: there is nothing to fold")
	}
	for about, change := range map[string]func(c *api.Code){
		"another number of parameters":  func(c *api.Code) { c.Params = 1 },
		"too many parameters":           func(c *api.Code) { c.Blocks[1].Params = 1000 },
		"no block":                      func(c *api.Code) { c.Blocks = nil },
		"no context":                    func(c *api.Code) { c.Contexts = nil },
		"a context with a parent":       func(c *api.Code) { c.Contexts[0].Parent = 0 },
		"an object of another context":  func(c *api.Code) { c.Objects[0].Ctx = 1 },
		"an object without words":       func(c *api.Code) { c.Objects[0].Words = 0 },
		"no kind of operation":          func(c *api.Code) { c.Blocks[1].Ops[0].Kind = 0 },
		"an unknown kind of operation":  func(c *api.Code) { c.Blocks[1].Ops[2].Kind = api.OpBind + 1 },
		"a field that is not used":      func(c *api.Code) { c.Blocks[1].Ops[1].N = 1 },
		"a value that is defined twice": func(c *api.Code) { c.Blocks[0].Ops[2].Dst = 3 },
		"a parameter that is defined":   func(c *api.Code) { c.Blocks[0].Ops[2].Dst = 1 },
		"a number that is too great":    func(c *api.Code) { c.Blocks[1].Ops[2].Dst = 10000 },
		"a value that is defined later": func(c *api.Code) { c.Blocks[1].Ops[1].A = 3 },
		"a value that is not defined":   func(c *api.Code) { c.Blocks[1].Ops[1].B = -1 },
		"a Bind to a value of nothing":  func(c *api.Code) { c.Blocks[0].Ops[3].Src.Val = 5 },
		"a Bind of an unknown kind":     func(c *api.Code) { c.Blocks[0].Ops[3].Src.Kind = 4 },
		"a Bind in an unknown context":  func(c *api.Code) { c.Blocks[0].Ops[3].Ctx = 1 },
		"an edge to the first block":    func(c *api.Code) { c.Blocks[0].Term.To[0] = api.Edge{Args: []int{0, 1}} },
		"an edge to no block":           func(c *api.Code) { c.Blocks[0].Term.To[1].Block = 2 },
		"an edge with more arguments":   func(c *api.Code) { c.Blocks[0].Term.To[1].Args = []int{0, 1} },
		"a branch on no value":          func(c *api.Code) { c.Blocks[0].Term.A = 5 },
		"no kind of terminator":         func(c *api.Code) { c.Blocks[1].Term.Kind = 0 },
		"an unknown kind of terminator": func(c *api.Code) { c.Blocks[1].Term.Kind = api.TermTail + 1 },
		"an edge where there is none":   func(c *api.Code) { c.Blocks[1].Term.To[0].Block = 0 },
		"an argument where there is no": func(c *api.Code) { c.Blocks[1].Term.Args = []int{0} },
	} {
		c := code(t, sure)
		change(&c)
		expectRefused(t, about, c, api.ErrForm)
	}
	expectRefused(t, "nothing", api.Code{}, api.ErrForm)
}

// repeated returns the code of sure with so many copies of its second block, contexts and objects more, and so many operations in all.
func repeated(t *testing.T, blocks, contexts, objects, ops int) api.Code {
	c := code(t, sure)
	for range blocks - 2 {
		c.Blocks = append(c.Blocks, code(t, sure).Blocks[1])
		ops -= 3
	}
	for range contexts - 1 {
		c.Contexts = append(c.Contexts, api.Context{})
	}
	for v := range objects - 1 {
		c.Objects = append(c.Objects, api.Object{Var: v + 1, Words: 1})
	}
	for v := range ops - 8 {
		c.Blocks[0].Ops = append(c.Blocks[0].Ops, api.Op{Kind: api.OpCopy, Dst: 5 + v, A: 4 + v})
	}
	return c
}

func TestLimits(t *testing.T) {
	c := repeated(t, api.MaxBlocks, 64, api.MaxVars, api.MaxOps)
	got := folded(t, "P8.1", c)
	last := got.Blocks[0].Ops[len(got.Blocks[0].Ops)-1]
	if len(c.Blocks[0].Ops) < 4000 || len(got.Blocks) != api.MaxBlocks || last.A != 0 {
		t.Errorf("P8.2: the last of %d copies is %+v", len(got.Blocks[0].Ops), last)
	}
	for i, b := range got.Blocks[1:] {
		if b.Ops[1].N != 36 || b.Term.A != 0 {
			t.Fatalf("P8.2: block %d is %+v", i+1, b)
		}
	}
	expectRefused(t, "more blocks", repeated(t, api.MaxBlocks+1, 1, 1, 0), api.ErrLimit)
	expectRefused(t, "more contexts", repeated(t, 2, 65, 1, 0), api.ErrLimit)
	expectRefused(t, "more objects", repeated(t, 2, 1, 65, 0), api.ErrLimit)
	expectRefused(t, "more operations", repeated(t, 2, 1, 1, api.MaxOps+1), api.ErrLimit)
}
