package dead

import (
	"iter"

	"debugger/api"
	"debugger/operation"
)

// closed returns some elements and all to which next leads from them, at once or through others.
func closed[T comparable](first iter.Seq[T], next func(T) iter.Seq[T]) map[T]bool {
	found, waiting := map[T]bool{}, []T{}
	find := func(list iter.Seq[T]) {
		for x := range list {
			if !found[x] {
				found[x] = true
				waiting = append(waiting, x)
			}
		}
	}
	find(first)
	for len(waiting) > 0 {
		last := len(waiting) - 1
		x := waiting[last]
		waiting = waiting[:last]
		find(next(x))
	}
	return found
}

// reached returns the blocks that a way of edges leads to from the first one, numbered anew.
func reached(blocks []api.Block) []api.Block {
	first := func(yield func(int) bool) { yield(0) }
	found := closed(first, func(b int) iter.Seq[int] { return targets(&blocks[b].Term) })
	list, numbers := []api.Block{}, map[int]int{}
	for i, b := range blocks {
		if found[i] {
			numbers[i] = len(list)
			list = append(list, b)
		}
	}
	for i := range list {
		for e := range operation.Edges(&list[i].Term) {
			e.Block = numbers[e.Block]
		}
	}
	return list
}

// targets goes through the blocks that the edges of a terminator lead to.
func targets(t *api.Term) iter.Seq[int] {
	return func(yield func(int) bool) {
		for e := range operation.Edges(t) {
			if !yield(e.Block) {
				return
			}
		}
	}
}
