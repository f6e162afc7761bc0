package passes

import (
	"testing"

	"debugger/api"
	"debugger/duplicate"
)

func TestExpectNew(t *testing.T) {
	var kept []api.Object
	for about, c := range map[string]struct {
		pass Pass
		want []string
	}{
		"a sound pass":        {careful(turn), nil},
		"the argument itself": {func(c api.Code) api.Code { return c }, []string{"P2: two slices", "P2: the argument"}},
		"a list that is kept": {careful(func(c *api.Code) {
			if kept == nil {
				kept = c.Objects
			}
			c.Objects = kept
		}), []string{"P2: two slices", "P3: the result", "P2: spare capacity"}},
		"a list that is there twice": {careful(func(c *api.Code) {
			c.Blocks[1].Ops = c.Blocks[0].Ops
		}), []string{"P2: two slices"}},
		"the same spare capacity": {careful(func(c *api.Code) {
			args := make([]int, 2, 4)
			c.Blocks[0].Term.To[0].Args = args
			c.Blocks[1].Term.Args = args[2:]
		}), []string{"P2: two slices"}},
		"a changed argument": {func(c api.Code) api.Code {
			c.Blocks[1].Params = 3
			return duplicate.Code(c)
		}, []string{"P2: the argument"}},
		"changed spare capacity": {func(c api.Code) api.Code {
			_ = append(c.Blocks[1].Ops, api.Op{Kind: api.OpZero})
			return duplicate.Code(c)
		}, []string{"P2: the argument"}},
		"changed spare capacity of arguments": {func(c api.Code) api.Code {
			_ = append(c.Blocks[0].Term.To[0].Args, 5)
			return duplicate.Code(c)
		}, []string{"P2: the argument"}},
		"used spare capacity": {func(c api.Code) api.Code {
			// What is there is put back, if nothing else is.
			ops := c.Blocks[0].Ops
			c = duplicate.Code(c)
			if last := ops[:cap(ops)][cap(ops)-1]; last.Kind != 0 {
				c.Blocks[0].Ops = append(c.Blocks[0].Ops, last)
			}
			return c
		}, []string{"P2: spare capacity"}},
	} {
		expectTold(t, about, func(t Tester) {
			ExpectNew(t, c.pass, Parse(t, "object 0 0 2\n"+text+"\n(1) v1 = 4; return v1"))
		}, c.want...)
	}
	count := 0
	pass := careful(func(c *api.Code) {
		count++
		c.Contexts[0].Func = count
	})
	expectTold(t, "another result", func(t Tester) { ExpectNew(t, pass, Parse(t, text)) }, "P3: the second result", "P3: the result", "P2: spare capacity")
}

func TestCopies(t *testing.T) {
	c := Largest(t)
	before := duplicate.Code(c)
	for about, other := range map[string]api.Code{"Roomy": Roomy(c), "Close": Close(c)} {
		if !Equal(other, c) || !Apart(c) || Apart(c, c) {
			t.Errorf("%s returns %s", about, shown(other))
		}
		if all := Stretched(other); len(all.Blocks[0].Ops) <= len(c.Blocks[0].Ops) {
			t.Errorf("%s leaves no room", about)
		}
		Spoil(other)
		if !Equal(c, before) || other.Blocks[0].Params != 0 || Apart(c, c) {
			t.Errorf("%s keeps memory", about)
		}
	}
	if !Apart(Roomy(c)) || Apart(Close(c)) {
		t.Error("the copies lie at wrong places")
	}
}

func TestEqual(t *testing.T) {
	empty := Parse(t, text)
	empty.Objects, empty.Blocks[1].Ops, empty.Blocks[1].Term.Args = []api.Object{}, []api.Op{}, []int{}
	if !Equal(empty, Parse(t, text)) {
		t.Error("nil is not the same as empty")
	}
	for about, change := range map[string]func(c *api.Code){
		"Params":          func(c *api.Code) { c.Params++ },
		"Contexts":        func(c *api.Code) { c.Contexts[0].Stmt++ },
		"Objects":         func(c *api.Code) { c.Objects = append(c.Objects, api.Object{}) },
		"Blocks":          func(c *api.Code) { c.Blocks = c.Blocks[:1] },
		"Block.Params":    func(c *api.Code) { c.Blocks[1].Params++ },
		"Ops":             func(c *api.Code) { c.Blocks[0].Ops[0].Src.Add++ },
		"Kind":            func(c *api.Code) { c.Blocks[1].Term.Kind++ },
		"A":               func(c *api.Code) { c.Blocks[0].Term.A++ },
		"N":               func(c *api.Code) { c.Blocks[0].Term.N++ },
		"Args":            func(c *api.Code) { c.Blocks[0].Term.Args = []int{0} },
		"To":              func(c *api.Code) { c.Blocks[0].Term.To[1].Block-- },
		"To's first Args": func(c *api.Code) { c.Blocks[0].Term.To[0].Args[1]++ },
		"To's other Args": func(c *api.Code) { c.Blocks[0].Term.To[1].Args = []int{0} },
	} {
		c := Parse(t, text)
		change(&c)
		if Equal(c, Parse(t, text)) {
			t.Errorf("%s may differ", about)
		}
	}
}
