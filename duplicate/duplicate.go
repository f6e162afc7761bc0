// Package duplicate copies intermediate code, so that the passes can change the copies.
package duplicate

import "debugger/api"

// Module returns a copy of a program's code that shares no memory with it.
func Module(m api.Module) api.Module {
	funcs := make([]api.Code, len(m.Funcs))
	for i, c := range m.Funcs {
		funcs[i] = Code(c)
	}
	return api.Module{Funcs: funcs}
}

// Code returns a copy of a function's code that shares no memory with it.
func Code(c api.Code) api.Code {
	blocks := make([]api.Block, len(c.Blocks))
	for i, b := range c.Blocks {
		blocks[i] = Block(b)
	}
	return api.Code{Params: c.Params, Blocks: blocks, Contexts: fresh(c.Contexts), Objects: fresh(c.Objects)}
}

// Block returns a copy of a block.
func Block(b api.Block) api.Block {
	return api.Block{Params: b.Params, Ops: fresh(b.Ops), Term: Term(b.Term)}
}

// Term returns a copy of a terminator.
func Term(t api.Term) api.Term {
	t.Args = fresh(t.Args)
	for i := range t.To {
		t.To[i].Args = fresh(t.To[i].Args)
	}
	return t
}

// fresh returns a copy of a list. (slices.Clone returns an empty list at the place of the old one.)
func fresh[T any](list []T) []T { return append([]T(nil), list...) }
