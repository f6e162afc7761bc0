package modules

import "debugger/api"

// ending returns a terminator with edges; one that is not given leads nowhere.
func ending(t api.Term, edges ...api.Edge) api.Term {
	t.To = [2]api.Edge{{Block: -1}, {Block: -1}}
	copy(t.To[:], edges)
	return t
}

// terminator returns one for a block.
func (w *writer) terminator(number int) api.Term {
	leads, calls := len(w.code.Blocks) > 1, !w.leaf
	switch n := w.choose(16); {
	case n < 4 && leads:
		return ending(api.Term{Kind: api.TermJump}, w.edge(w.target(number)))
	case n < 9 && leads:
		return ending(api.Term{Kind: api.TermBranch, A: w.value()}, w.edge(w.target(number)), w.edge(w.target(number)))
	case n < 13 && calls:
		return w.call()
	case n < 14 && calls:
		f := w.choose(len(w.module.Funcs))
		return ending(api.Term{Kind: api.TermTail, N: f, Args: w.arguments(w.module.Funcs[f].Params)})
	}
	return ending(api.Term{Kind: pick(w, api.TermReturn, api.TermReturn, api.TermThrow), A: w.value()})
}

// target returns the block that an edge of a block leads to, mostly the next one.
func (w *writer) target(number int) int {
	if w.choose(3) > 0 && number+1 < len(w.code.Blocks) {
		return number + 1
	}
	return 1 + w.choose(len(w.code.Blocks)-1)
}

func (w *writer) edge(block int) api.Edge {
	return api.Edge{Block: block, Args: w.arguments(w.code.Blocks[block].Params)}
}

// arguments returns so many values; many of them are the parameters in their order.
func (w *writer) arguments(count int) []int {
	list := []int{}
	for i := range count {
		if i < len(w.values) && w.choose(2) == 0 {
			list = append(list, w.values[i])
		} else {
			list = append(list, w.value())
		}
	}
	return list
}

// call returns a TermCall if there is a block for its result.
func (w *writer) call() api.Term {
	f := w.choose(len(w.module.Funcs))
	t := api.Term{Kind: api.TermCall, N: f, Args: w.arguments(w.module.Funcs[f].Params)}
	result, ok := w.received()
	if !ok {
		return ending(api.Term{Kind: api.TermThrow, A: w.value()})
	}
	if handler, ok := w.received(); ok && w.choose(2) == 0 {
		return ending(t, result, handler)
	}
	return ending(t, result)
}

// received returns an edge to a block whose first parameter is a result or a thrown value, and whether there is such a block.
func (w *writer) received() (api.Edge, bool) {
	list := []int{}
	for b, block := range w.code.Blocks {
		if b > 0 && block.Params > 0 {
			list = append(list, b)
		}
	}
	if len(list) == 0 {
		return api.Edge{}, false
	}
	b := pick(w, list...)
	return api.Edge{Block: b, Args: w.arguments(w.code.Blocks[b].Params - 1)}, true
}
