package dead

import (
	"iter"

	"debugger/operation"
)

// needed returns the values that are needed, parameters and others.
func (f flow) needed() map[value]bool {
	return closed(f.wanted, f.sources)
}

// wanted goes through the values that are needed whatever else is.
func (f flow) wanted(yield func(value) bool) {
	for p := range f.parameters() {
		if (p.block == 0 || f.received(p)) && !yield(p) {
			return
		}
	}
	for i := range f.blocks {
		for n := range f.effective(i) {
			if !yield(value{i, n}) {
				return
			}
		}
	}
}

// effective goes through the values of a block that are used by operations without a value, and by the terminator itself.
func (f flow) effective(block int) iter.Seq[int] {
	return func(yield func(int) bool) {
		b := f.blocks[block]
		for _, o := range b.Ops {
			if operation.Defines(o.Kind) {
				continue
			}
			for v := range operation.Values(&o) {
				if !yield(*v) {
					return
				}
			}
		}
		for v := range operation.Ending(&b.Term) {
			if !yield(*v) {
				return
			}
		}
	}
}

// sources goes through the values that are needed if a value is: the operands of the operation that defines it, or the arguments for a parameter.
func (f flow) sources(v value) iter.Seq[value] {
	o, defined := f.definitions[v]
	if !defined {
		return f.arguments(v)
	}
	return func(yield func(value) bool) {
		for operand := range operation.Values(&o) {
			if !yield(value{v.block, *operand}) {
				return
			}
		}
	}
}
