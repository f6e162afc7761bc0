package inline

import (
	"iter"
	"slices"

	"debugger/api"
	"debugger/duplicate"
	"debugger/operation"
)

// writer writes the code of a leaf for one of its calls.
type writer struct {
	site
	context, object, block int // the numbers of the context, the first object and the first block that are added
}

// replace puts the code of the leaf in the place of the call that ends a block of a function.
func (s site) replace(c *api.Code, block int) {
	w := writer{site: s, context: len(c.Contexts), object: len(c.Objects), block: len(c.Blocks)}
	c.Contexts = append(c.Contexts, api.Context{Parent: s.position.Ctx, Stmt: s.position.N, Func: s.call.N})
	for _, o := range s.leaf.Objects {
		o.Ctx = w.context
		c.Objects = append(c.Objects, o)
	}
	for _, b := range s.leaf.Blocks {
		c.Blocks = append(c.Blocks, w.added(b))
	}
	c.Blocks[block].Term = jump(w.block, slices.Concat(s.call.Args, s.passed))
}

// jump returns a TermJump to a block with arguments.
func jump(block int, args []int) api.Term {
	return api.Term{Kind: api.TermJump, To: [2]api.Edge{{Block: block, Args: args}, {Block: -1}}}
}

// added returns the block that is added for a block of the leaf.
func (w writer) added(b api.Block) api.Block {
	b = duplicate.Block(b)
	for i := range b.Ops {
		o := &b.Ops[i]
		w.renumber(b.Params, values(o))
		w.connect(o)
	}
	w.renumber(b.Params, operation.Leaving(&b.Term))
	return api.Block{
		Params: b.Params + len(w.passed),
		Ops:    append(w.binds(b.Params), b.Ops...),
		Term:   w.ending(b.Params, b.Term),
	}
}

// values goes through the values that an operation defines, uses or binds to; they may be replaced.
func values(o *api.Op) iter.Seq[*int] {
	return func(yield func(*int) bool) {
		if operation.Defines(o.Kind) && !yield(&o.Dst) {
			return
		}
		for v := range operation.Values(o) {
			if !yield(v) {
				return
			}
		}
		if o.Src.Kind == api.SrcValue {
			yield(&o.Src.Val)
		}
	}
}

// renumber makes room for the passed values behind the parameters of a block.
func (w writer) renumber(params int, values iter.Seq[*int]) {
	for v := range values {
		if *v >= params {
			*v += len(w.passed)
		}
	}
}

// connect gives an operation the context and the objects of the function to which it is added.
func (w writer) connect(o *api.Op) {
	switch o.Kind {
	case api.OpMark, api.OpAt, api.OpBind:
		o.Ctx = w.context
	case api.OpLoad, api.OpStore, api.OpZero:
		o.N += w.object
	}
}

// binds returns the current bindings as they are in a block that has the passed values behind so many parameters.
func (w writer) binds(params int) []api.Op {
	list := []api.Op{}
	for _, o := range w.bindings {
		o.Src = w.source(params, o.Src)
		list = append(list, o)
	}
	return list
}

// source returns to what a piece is bound there that was bound to s ahead of the call.
func (w writer) source(params int, s api.Src) api.Src {
	if s.Kind != api.SrcValue {
		return s
	}
	place, passed := w.places[s.Val]
	if !passed {
		return api.Src{Kind: api.SrcNowhere}
	}
	s.Val = params + place
	return s
}

// ending returns a terminator of the leaf as it ends an added block that has the passed values behind so many parameters.
func (w writer) ending(params int, t api.Term) api.Term {
	switch {
	case t.Kind == api.TermReturn:
		return w.leaving(params, t.A, w.call.To[0])
	case t.Kind == api.TermThrow && w.call.To[1].Block >= 0:
		return w.leaving(params, t.A, w.call.To[1])
	}
	for e := range operation.Edges(&t) {
		e.Block += w.block
		for i := range w.passed {
			e.Args = append(e.Args, params+i)
		}
	}
	return t
}

// leaving returns a jump along an edge of the call, with a value ahead of its arguments.
func (w writer) leaving(params, value int, e api.Edge) api.Term {
	args := []int{value}
	for _, v := range e.Args {
		args = append(args, params+w.places[v])
	}
	return jump(e.Block, args)
}
