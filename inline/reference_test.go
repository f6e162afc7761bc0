package inline

import (
	"slices"

	"debugger/api"
	"debugger/duplicate"
)

// The second implementation makes the whole function that it would be with the call replaced, and then looks whether that is within the limits.

// reckon returns what Inline should make of a sound module.
func reckon(m api.Module) api.Module {
	result := api.Module{}
	for _, c := range m.Funcs {
		now := duplicate.Code(c)
		for i, b := range c.Blocks {
			if b.Term.Kind != api.TermCall || !leafLike(m.Funcs[b.Term.N]) || lastPosition(b) < 0 {
				continue
			}
			if then := replaced(duplicate.Code(now), i, m.Funcs[b.Term.N]); allowed(then) {
				now = then
			}
		}
		result.Funcs = append(result.Funcs, now)
	}
	return result
}

func leafLike(c api.Code) bool {
	ops := 0
	for _, b := range c.Blocks {
		ops += len(b.Ops)
		switch b.Term.Kind {
		case api.TermJump, api.TermBranch, api.TermReturn, api.TermThrow:
		default:
			return false
		}
		for _, o := range b.Ops {
			if o.Kind == api.OpBind && o.Src.Kind == api.SrcEntry {
				return false
			}
		}
	}
	return ops < 121 && len(c.Blocks) < 13 && len(c.Contexts) == 1
}

func allowed(c api.Code) bool {
	ops := 0
	for _, b := range c.Blocks {
		ops += len(b.Ops)
		if b.Params > 999 {
			return false
		}
		for _, o := range b.Ops {
			if o.Dst > 9999 {
				return false
			}
		}
	}
	return ops <= 6000 && len(c.Blocks) <= 400 && len(c.Contexts) <= 16 && len(c.Objects) <= 64
}

func lastPosition(b api.Block) int {
	last := -1
	for i, o := range b.Ops {
		if o.Kind == api.OpMark || o.Kind == api.OpAt {
			last = i
		}
	}
	return last
}

// latest returns the current bindings at an operation of a block: for each piece, in order, the last Bind ahead of it.
func latest(c api.Code, b api.Block, place int) []api.Op {
	list := []api.Op{}
	for ctx := range c.Contexts {
		for v := range api.MaxVars {
			for piece := range api.MaxFields {
				for i := place - 1; i >= 0; i-- {
					if o := b.Ops[i]; o.Kind == api.OpBind && o.Ctx == ctx && o.Var == v && o.Piece == piece {
						list = append(list, o)
						break
					}
				}
			}
		}
	}
	return list
}

// handed returns the values that are passed.
func handed(b api.Block, place int, bindings []api.Op) []int {
	all := slices.Clone(b.Term.To[0].Args)
	if b.Term.To[1].Block >= 0 {
		all = append(all, b.Term.To[1].Args...)
	}
	for _, o := range bindings {
		ahead := func(other api.Op) bool { return other.Kind <= api.OpLoad && other.Dst == o.Src.Val }
		if o.Src.Kind == api.SrcValue && (o.Src.Val < b.Params || slices.ContainsFunc(b.Ops[:place], ahead)) {
			all = append(all, o.Src.Val)
		}
	}
	list := []int{}
	for _, v := range all {
		if !slices.Contains(list, v) {
			list = append(list, v)
		}
	}
	return list
}

// replaced returns a code with the code of t in the place of the call that ends a block.
func replaced(c api.Code, block int, t api.Code) api.Code {
	b := &c.Blocks[block]
	place := lastPosition(*b)
	bindings := latest(c, *b, place)
	passed := handed(*b, place, bindings)
	call, first, ctx, object := b.Term, len(c.Blocks), len(c.Contexts), len(c.Objects)
	b.Term = api.Term{Kind: api.TermJump, To: [2]api.Edge{{Block: first, Args: append(slices.Clone(call.Args), passed...)}, {Block: -1}}}
	c.Contexts = append(c.Contexts, api.Context{Parent: b.Ops[place].Ctx, Stmt: b.Ops[place].N, Func: call.N})
	for _, o := range t.Objects {
		c.Objects = append(c.Objects, api.Object{Ctx: ctx, Var: o.Var, Words: o.Words})
	}
	for _, from := range t.Blocks {
		from = duplicate.Block(from)
		// The new numbers of the values of t in this block, and where the passed values are in it.
		number := func(v int) int {
			if v >= from.Params {
				return v + len(passed)
			}
			return v
		}
		where := func(v int) int { return from.Params + slices.Index(passed, v) }
		to := api.Block{Params: from.Params + len(passed)}
		for _, o := range bindings {
			if o.Src.Kind == api.SrcValue && !slices.Contains(passed, o.Src.Val) {
				o.Src = api.Src{}
			} else if o.Src.Kind == api.SrcValue {
				o.Src.Val = where(o.Src.Val)
			}
			to.Ops = append(to.Ops, o)
		}
		for _, o := range from.Ops {
			to.Ops = append(to.Ops, shifted(o, number, ctx, object))
		}
		to.Term = shiftedTerm(from.Term, number, where, passed, first, call)
		c.Blocks = append(c.Blocks, to)
	}
	return c
}

func shifted(o api.Op, number func(int) int, ctx, object int) api.Op {
	switch o.Kind {
	case api.OpConst:
		return api.Op{Kind: o.Kind, Dst: number(o.Dst), N: o.N}
	case api.OpCopy:
		return api.Op{Kind: o.Kind, Dst: number(o.Dst), A: number(o.A)}
	case api.OpLoad:
		return api.Op{Kind: o.Kind, Dst: number(o.Dst), A: number(o.A), N: o.N + object}
	case api.OpStore:
		return api.Op{Kind: o.Kind, A: number(o.A), B: number(o.B), N: o.N + object}
	case api.OpZero:
		return api.Op{Kind: o.Kind, N: o.N + object}
	case api.OpPrint:
		return api.Op{Kind: o.Kind, A: number(o.A)}
	case api.OpMark, api.OpAt:
		return api.Op{Kind: o.Kind, N: o.N, Ctx: ctx}
	case api.OpBind:
		o.Ctx = ctx
		if o.Src.Kind == api.SrcValue {
			o.Src.Val = number(o.Src.Val)
		}
		return o
	}
	return api.Op{Kind: o.Kind, Dst: number(o.Dst), A: number(o.A), B: number(o.B)}
}

func shiftedTerm(t api.Term, number, where func(int) int, passed []int, first int, call api.Term) api.Term {
	out := func(e api.Edge) api.Term {
		args := []int{number(t.A)}
		for _, v := range e.Args {
			args = append(args, where(v))
		}
		return api.Term{Kind: api.TermJump, To: [2]api.Edge{{Block: e.Block, Args: args}, {Block: -1}}}
	}
	switch {
	case t.Kind == api.TermReturn:
		return out(call.To[0])
	case t.Kind == api.TermThrow && call.To[1].Block >= 0:
		return out(call.To[1])
	}
	if t.Kind != api.TermJump {
		t.A = number(t.A)
	}
	for i, e := range t.To {
		if e.Block < 0 {
			continue
		}
		args := []int{}
		for _, v := range e.Args {
			args = append(args, number(v))
		}
		for _, v := range passed {
			args = append(args, where(v))
		}
		t.To[i] = api.Edge{Block: first + e.Block, Args: args}
	}
	return t
}
