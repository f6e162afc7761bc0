package merge

import (
	"iter"

	"debugger/api"
	"debugger/operation"
)

// edges goes through the edges that lead from blocks to blocks; they may be changed.
func edges(blocks []api.Block) iter.Seq[*api.Edge] {
	return func(yield func(*api.Edge) bool) {
		for i := range blocks {
			for e := range operation.Edges(&blocks[i].Term) {
				if !yield(e) {
					return
				}
			}
		}
	}
}
