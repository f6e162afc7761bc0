package passes

import (
	"fmt"
	"math/rand/v2"
	"strings"
	"testing"

	"debugger/api"
	"debugger/duplicate"
	"debugger/ir"
	"debugger/modules"
)

// recorder is a test that notes what it is told.
type recorder struct{ told []string }

// over is how a test ends at once.
type over struct{}

func (r *recorder) Helper()           {}
func (r *recorder) Error(args ...any) { r.told = append(r.told, fmt.Sprint(args...)) }
func (r *recorder) Fatal(args ...any) {
	r.Error(args...)
	panic(over{})
}

// expectTold checks the beginnings of all that a check tells.
func expectTold(t *testing.T, about string, check func(t Tester), want ...string) {
	t.Helper()
	r := &recorder{}
	func() {
		defer func() {
			if x := recover(); x != nil && x != any(over{}) {
				panic(x)
			}
		}()
		check(r)
	}()
	ok := len(r.told) == len(want)
	for i := range min(len(r.told), len(want)) {
		ok = ok && strings.HasPrefix(r.told[i], want[i])
	}
	if !ok {
		t.Errorf("%s: %q is told, not %q", about, r.told, want)
	}
}

const text = "(1) v1 = copy v0; jump 1(v1 v0)\n(2) return v1"

// negligent makes a pass of a change that does not ask whether a code is sound.
func negligent(change func(c *api.Code)) Pass {
	return func(c api.Code) api.Code {
		c = duplicate.Code(c)
		change(&c)
		return c
	}
}

// careful makes a pass of a change.
func careful(change func(c *api.Code)) Pass {
	return func(c api.Code) api.Code {
		if ir.CheckCode(c) == api.OK {
			c = duplicate.Code(c)
			change(&c)
		}
		return c
	}
}

func turn(c *api.Code)     { c.Blocks[0].Term = duplicate.Term(c.Blocks[len(c.Blocks)-1].Term) }
func nothing(c *api.Code)  {}
func spoiling(c *api.Code) { c.Params = 7 }

func TestExpect(t *testing.T) {
	for about, c := range map[string]struct {
		pass Pass
		want []string
	}{
		"the right result":  {careful(nothing), nil},
		"a wrong result":    {careful(turn), []string{"P1.2:\n" + text + "\nbecomes\n(1) v1 = copy v0; return v1\n"}},
		"an unsound result": {careful(spoiling), []string{"P1.2: ", "P1.2:\n"}},
		"a changed argument": {func(c api.Code) api.Code {
			c.Blocks[0].Term.To[0].Args[1] = 1
			return duplicate.Code(c)
		}, []string{"P2: the argument"}},
	} {
		expectTold(t, about, func(t Tester) { Expect(t, "P1.2", c.pass, text, text) }, c.want...)
	}
	expectTold(t, "no code", func(t Tester) { Expect(t, "P1.2", careful(nothing), "(1) x", text) }, "(1) x is no code")
	expectTold(t, "a code that is not sound", func(t Tester) { Expect(t, "P1.2", careful(nothing), "(1) return v4", text) }, "P1.2: the error of (1) return v4\nis 4")
}

func TestApplied(t *testing.T) {
	m := api.Module{Funcs: []api.Code{Parse(t, text), Parse(t, "func 1\n"+text)}}
	got := Applied(t, "P1.2", careful(turn), careful(turn), m)
	if len(got.Funcs) != 2 || got.Funcs[1].Contexts[0].Func != 1 || got.Funcs[1].Blocks[0].Term.Kind != api.TermReturn {
		t.Errorf("the module becomes %+v", got)
	}
	other := careful(func(c *api.Code) { c.Contexts[0].Func = 0 })
	expectTold(t, "another function", func(t Tester) { Applied(t, "P1.2", other, other, m) }, "P1.2: the error of the module is 4")
	expectTold(t, "another pass", func(t Tester) { Applied(t, "P1.2", careful(turn), careful(nothing), m) }, "P1.2:\n"+text)
}

func TestExpectRefused(t *testing.T) {
	expectTold(t, "a careful pass", func(t Tester) { ExpectRefused(t, "P1.2", careful(turn)) })
	expectTold(t, "an idle pass", func(t Tester) { ExpectRefused(t, "P1.2", careful(nothing)) }, "P1.2: the pass does nothing")
	expectTold(t, "a pass for small codes", func(t Tester) {
		ExpectRefused(t, "P1.2", careful(func(c *api.Code) {
			if len(c.Blocks) < 10 {
				turn(c)
			}
		}))
	}, "P1.2: the pass does nothing")
	r := &recorder{}
	ExpectRefused(r, "P1.2", negligent(func(c *api.Code) {
		if len(c.Blocks) > 0 {
			turn(c)
		}
		c.Objects = nil
	}))
	// All of them but the code without anything in it are changed.
	if len(r.told) != len(wrong())+4 {
		t.Errorf("a negligent pass: %d codes are told", len(r.told))
	}
}

func TestLarge(t *testing.T) {
	for _, c := range []api.Code{Parse(t, Sound), Largest(t)} {
		if e := ir.CheckCode(c); e != api.OK {
			t.Errorf("the error of %s is %d", shown(c), e)
		}
	}
	c, ops := Largest(t), 0
	for _, b := range c.Blocks {
		ops += len(b.Ops)
	}
	if len(c.Blocks) != api.MaxBlocks || len(c.Contexts) != 64 || len(c.Objects) != 64 || ops != api.MaxOps {
		t.Errorf("%d blocks, %d contexts, %d objects, %d operations", len(c.Blocks), len(c.Contexts), len(c.Objects), ops)
	}
}

func TestChanged(t *testing.T) {
	r := rand.New(rand.NewPCG(9, 1))
	sound, same := 0, 0
	for range 2000 {
		_, m := modules.Module(r.IntN)
		c := m.Funcs[0]
		before := duplicate.Code(c)
		other := Changed(r.IntN, c)
		if !Equal(c, before) || !Apart(c, other) {
			t.Fatalf("%s is changed, or shares memory with its copy", shown(before))
		}
		if Equal(c, other) {
			same++
		} else if ir.CheckCode(other) == api.OK {
			sound++
		}
	}
	if sound < 100 || same > 800 {
		t.Errorf("%d changed codes are sound, %d are not changed", sound, same)
	}
}

func TestExpectChanged(t *testing.T) {
	r := rand.New(rand.NewPCG(9, 3))
	if sound := ExpectChanged(t, "P1.2", careful(turn), careful(turn), r.IntN, 1000); sound < 100 || sound > 400 {
		t.Errorf("%d of 1000 codes are sound", sound)
	}
	for about, c := range map[string]struct {
		pass Pass
		want string
	}{
		"another pass":       {careful(spoiling), "P1.2:\n"},
		"a negligent pass":   {negligent(turn), "P1.2:\n"},
		"a changed argument": {func(c api.Code) api.Code { _ = append(c.Objects, api.Object{Var: 1}); return careful(turn)(c) }, "P2: "},
	} {
		expectTold(t, about, func(t Tester) { ExpectChanged(t, "P1.2", c.pass, careful(turn), r.IntN, 1000) }, c.want)
	}
}

func TestBlank(t *testing.T) {
	r := rand.New(rand.NewPCG(9, 4))
	for range 200 {
		_, m := modules.Module(r.IntN)
		c := m.Funcs[0]
		before := duplicate.Code(c)
		other := Blank(r.IntN, c)
		if !Equal(c, before) || !Apart(c, other) || ir.CheckCode(other) != api.OK {
			t.Fatalf("%s is changed, or shares memory with %s", shown(before), shown(other))
		}
		for i, b := range other.Blocks {
			added := len(b.Ops) - len(c.Blocks[i].Ops)
			if added != 15*len(c.Contexts)+1 || b.Ops[added-1].Kind != api.OpAt || !Equal(api.Code{Blocks: []api.Block{{Ops: b.Ops[added:]}}}, api.Code{Blocks: []api.Block{{Ops: c.Blocks[i].Ops}}}) {
				t.Fatalf("block %d of\n%s becomes that of\n%s", i, shown(c), shown(other))
			}
		}
	}
}
