// Package behind puts the code of a block behind that of another one.
package behind

import (
	"iter"

	"debugger/api"
	"debugger/operation"
)

// lastValue is the greatest number that a value may have.
const lastValue = 9999

// Fits tells whether the values of a block t have numbers left behind those of b.
func Fits(b, t api.Block) bool {
	next := free(b)
	for range defined(t) {
		next++
	}
	return next-1 <= lastValue
}

// Add puts the operations of the block t, whose parameters are args, behind those of b, and gives b its terminator. The block t is used up.
func Add(b *api.Block, t api.Block, args []int) {
	rename(&t, names(t, args, free(*b)))
	b.Ops = append(b.Ops, t.Ops...)
	b.Term = t.Term
}

// defined goes through the numbers of the values that the operations of a block define.
func defined(b api.Block) iter.Seq[int] {
	return func(yield func(int) bool) {
		for _, o := range b.Ops {
			if operation.Defines(o.Kind) && !yield(o.Dst) {
				return
			}
		}
	}
}

// free returns the number behind the greatest one of a block's values.
func free(b api.Block) int {
	next := b.Params
	for v := range defined(b) {
		next = max(next, v+1)
	}
	return next
}

// names returns the new number of each value of a block: its parameters are args, and the others are numbered from next on.
func names(b api.Block, args []int, next int) map[int]int {
	list := map[int]int{}
	for i, v := range args {
		list[i] = v
	}
	for v := range defined(b) {
		list[v] = next
		next++
	}
	return list
}

// rename replaces the numbers of all values of a block at once.
func rename(b *api.Block, names map[int]int) {
	replace := func(values iter.Seq[*int]) {
		for v := range values {
			*v = names[*v]
		}
	}
	for i := range b.Ops {
		o := &b.Ops[i]
		replace(operation.Values(o))
		if operation.Defines(o.Kind) {
			o.Dst = names[o.Dst]
		}
		if o.Kind == api.OpBind && o.Src.Kind == api.SrcValue {
			o.Src.Val = names[o.Src.Val]
		}
	}
	replace(operation.Leaving(&b.Term))
}
