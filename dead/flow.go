package dead

import (
	"iter"

	"debugger/api"
	"debugger/operation"
)

// value is a value of a block.
type value struct{ block, number int }

// way is an edge, as the block sees it to which it leads.
type way struct {
	from  int // the block that it leaves
	given int // how many parameters the terminator gives, for which there are no arguments
	args  []int
}

// flow is where the values of some blocks come from.
type flow struct {
	blocks      []api.Block
	definitions map[value]api.Op // the operations that define values
	copied      map[value]value  // the value that is copied, at once or through other copies, by the OpCopy that defines one
	leading     [][]way          // the edges that lead to each block
}

func flowing(blocks []api.Block) flow {
	f := flow{blocks: blocks, definitions: map[value]api.Op{}, copied: map[value]value{}, leading: make([][]way, len(blocks))}
	for i, b := range blocks {
		for _, o := range b.Ops {
			f.define(i, o)
		}
		for e := range operation.Edges(&b.Term) {
			f.leading[e.Block] = append(f.leading[e.Block], way{i, given(b.Term.Kind), e.Args})
		}
	}
	return f
}

// given returns how many parameters a terminator of a kind gives to the blocks that its edges lead to.
func given(kind int) int {
	if kind == api.TermCall {
		return 1
	}
	return 0
}

// define notes an operation of a block if it defines a value.
func (f flow) define(block int, o api.Op) {
	if !operation.Defines(o.Kind) {
		return
	}
	v := value{block, o.Dst}
	f.definitions[v] = o
	if o.Kind == api.OpCopy {
		f.copied[v] = f.original(value{block, o.A})
	}
}

// original returns the value that a value is a copy of, or the value itself if an OpCopy does not define it.
func (f flow) original(v value) value {
	if x, is := f.copied[v]; is {
		return x
	}
	return v
}

// parameters goes through the parameters of all blocks.
func (f flow) parameters() iter.Seq[value] {
	return func(yield func(value) bool) {
		for i, b := range f.blocks {
			for n := range b.Params {
				if !yield(value{i, n}) {
					return
				}
			}
		}
	}
}

// arguments goes through the arguments that edges have for a parameter.
func (f flow) arguments(p value) iter.Seq[value] {
	return func(yield func(value) bool) {
		for _, w := range f.leading[p.block] {
			if p.number >= w.given && !yield(value{w.from, w.args[p.number-w.given]}) {
				return
			}
		}
	}
}

// received tells whether a parameter is the one that a call gives, a result or a thrown value.
func (f flow) received(p value) bool {
	for _, w := range f.leading[p.block] {
		if p.number < w.given {
			return true
		}
	}
	return false
}
