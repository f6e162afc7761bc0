package sink

import (
	"iter"

	"debugger/api"
)

// row is a list of some of a block's operations. Its elements are their numbers in the block; each leads to the next one, so that an operation is put between two of them without moving any.
type row struct {
	ops  []api.Op
	next []int
}

// newRow returns an empty row.
func newRow(ops []api.Op) row {
	r := row{ops, make([]int, len(ops)+1)}
	r.next[r.end()] = r.end()
	return r
}

// end returns the number that stands for the end of the row, which leads to its beginning.
func (r row) end() int { return len(r.ops) }

// put puts an operation behind an element of the row, or at its beginning if this is its end.
func (r row) put(i, behind int) {
	r.next[i], r.next[behind] = r.next[behind], i
}

// elements goes through the row.
func (r row) elements() iter.Seq[int] {
	return func(yield func(int) bool) {
		for i := r.next[r.end()]; i != r.end(); i = r.next[i] {
			if !yield(i) {
				return
			}
		}
	}
}

// ahead returns the element ahead of the first one whose operation is wanted, or the last element if none is.
func (r row) ahead(wanted func(*api.Op) bool) int {
	at := r.end()
	for i := range r.elements() {
		if wanted(&r.ops[i]) {
			break
		}
		at = i
	}
	return at
}
