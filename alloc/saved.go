package alloc

import (
	"debugger/api"
	"debugger/operation"
)

// Saved returns the values that a block's Call stores in save slots, in order.
func Saved(b api.Block) []int {
	if b.Term.Kind != api.TermCall {
		return nil
	}
	saved, seen := []int{}, map[int]bool{}
	for e := range operation.Edges(&b.Term) {
		for _, v := range e.Args {
			if !seen[v] {
				seen[v] = true
				saved = append(saved, v)
			}
		}
	}
	return saved
}
