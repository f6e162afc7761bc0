package dead

import (
	"iter"
	"slices"

	"debugger/api"
	"debugger/operation"
)

// rest is what stays of some blocks.
type rest struct {
	definitions map[value]api.Op // as they were
	origins     map[value]int
	numbers     map[value]int // the new number of each value that stays
}

func remaining(blocks []api.Block) rest {
	f := flowing(blocks)
	needed := f.needed()
	r := rest{definitions: f.definitions, origins: f.origins(), numbers: map[value]int{}}
	for i, b := range blocks {
		next := 0
		for n := range b.Params {
			if p := (value{i, n}); needed[p] {
				r.numbers[p] = next
				next++
			}
		}
		for _, o := range b.Ops {
			if v := (value{i, o.Dst}); operation.Defines(o.Kind) && needed[v] {
				r.numbers[v] = o.Dst
			}
		}
	}
	return r
}

func (r rest) stays(v value) bool {
	_, stays := r.numbers[v]
	return stays
}

// shrink removes from a block what does not stay.
func (r rest) shrink(block int, b *api.Block) {
	b.Ops = slices.DeleteFunc(b.Ops, func(o api.Op) bool {
		return operation.Defines(o.Kind) && !r.stays(value{block, o.Dst})
	})
	for i := range b.Ops {
		o := &b.Ops[i]
		r.rename(block, operation.Values(o))
		if o.Kind == api.OpBind && o.Src.Kind == api.SrcValue {
			o.Src = r.source(value{block, o.Src.Val}, o.Src.Add)
		}
	}
	for e := range operation.Edges(&b.Term) {
		r.shorten(e, given(b.Term.Kind))
	}
	r.rename(block, operation.Leaving(&b.Term))
	b.Params = r.params(block, b.Params)
}

// rename puts the new numbers in the place of values of a block.
func (r rest) rename(block int, values iter.Seq[*int]) {
	for v := range values {
		*v = r.numbers[value{block, *v}]
	}
}

// shorten removes the arguments for parameters that do not stay from an edge; the first parameters are given.
func (r rest) shorten(e *api.Edge, given int) {
	list := e.Args[:0]
	for i, v := range e.Args {
		if r.stays(value{e.Block, given + i}) {
			list = append(list, v)
		}
	}
	e.Args = list
}

// params returns how many of the parameters of a block stay.
func (r rest) params(block, count int) int {
	left := 0
	for n := range count {
		if r.stays(value{block, n}) {
			left++
		}
	}
	return left
}
