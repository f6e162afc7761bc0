package passes

import (
	"debugger/api"
	"debugger/duplicate"
	"debugger/ir"
	"debugger/modules"
	"debugger/notation"
)

const (
	least    = -1 << 63
	greatest = 1<<63 - 1
)

// Changed returns a copy of a code in which a number or the length of a slice is another one, as choose chooses: a number from 0 to n - 1.
func Changed(choose func(n int) int, c api.Code) api.Code {
	c = Roomy(c)
	numbers, lengths := []*int{&c.Params}, []func(){cut(choose, &c.Blocks), cut(choose, &c.Contexts), cut(choose, &c.Objects)}
	for i := range c.Contexts {
		x := &c.Contexts[i]
		numbers = append(numbers, &x.Parent, &x.Stmt, &x.Func)
	}
	for i := range c.Objects {
		o := &c.Objects[i]
		numbers = append(numbers, &o.Ctx, &o.Var, &o.Words)
	}
	for i := range c.Blocks {
		b := &c.Blocks[i]
		numbers = append(numbers, &b.Params, &b.Term.Kind, &b.Term.A, &b.Term.N, &b.Term.To[0].Block, &b.Term.To[1].Block)
		lengths = append(lengths, cut(choose, &b.Ops))
		for j := range b.Ops {
			o := &b.Ops[j]
			numbers = append(numbers, &o.Kind, &o.Dst, &o.A, &o.B, &o.N, &o.Ctx, &o.Var, &o.Piece, &o.Src.Kind, &o.Src.Val, &o.Src.Add)
		}
		for _, list := range lists(&b.Term) {
			lengths = append(lengths, cut(choose, list))
			for j := range *list {
				numbers = append(numbers, &(*list)[j])
			}
		}
	}
	if n := choose(len(numbers) + len(lengths)); n < len(numbers) {
		*numbers[n] = other(choose, *numbers[n])
	} else {
		lengths[n-len(numbers)]()
	}
	return c
}

// cut returns a function that gives a slice another length, up to its capacity.
func cut[T any](choose func(n int) int, list *[]T) func() {
	return func() { *list = (*list)[:choose(cap(*list)+1)] }
}

// other returns a number that is close to another one, or one at an edge.
func other(choose func(n int) int, n int) int {
	if choose(2) > 0 {
		return n + choose(3) - 1
	}
	edges := []int{least, -1 << 40, -2, -1, 0, 1, 2, 3, 4, 5, 8, 9, 21, 24, 1 << 20, 1 << 40, greatest}
	return edges[choose(len(edges))]
}

// ExpectChanged checks a pass with so many codes by chance in which something is changed: those that are sound still become what a second implementation makes of them, and the others come back as they are. It returns how many are sound.
func ExpectChanged(t Tester, promise string, pass, reckon Pass, choose func(n int) int, count int) int {
	t.Helper()
	sound := 0
	for range count {
		_, m := modules.Module(choose)
		c := m.Funcs[0]
		for range 1 + choose(2) {
			c = Changed(choose, c)
		}
		before, want := duplicate.Code(Stretched(c)), c
		if ir.CheckCode(c) == api.OK {
			sound++
			want = reckon(c)
		}
		if got := pass(c); !Equal(got, want) {
			t.Fatal(promise + ":\n" + notation.Print(c) + "becomes\n" + notation.Print(got) + "not\n" + notation.Print(want))
		}
		if !Equal(Stretched(c), before) {
			t.Fatal("P2: the argument " + shown(before) + "is changed")
		}
	}
	return sound
}

// Blank returns a code whose blocks begin with a position of their own and without bindings, so that what a block shows does not depend on what is ahead of it.
func Blank(choose func(n int) int, c api.Code) api.Code {
	c = Roomy(c)
	for i := range c.Blocks {
		b, ops := &c.Blocks[i], []api.Op{}
		for x := range c.Contexts {
			for v := range 5 {
				for piece := range 3 {
					ops = append(ops, api.Op{Kind: api.OpBind, Ctx: x, Var: v, Piece: piece})
				}
			}
		}
		ops = append(ops, api.Op{Kind: api.OpAt, N: choose(10), Ctx: choose(len(c.Contexts))})
		b.Ops = append(ops, b.Ops...)
	}
	return c
}
