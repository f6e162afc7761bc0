// Package modules writes modules of intermediate code by chance, for the tests of the layers.
package modules

import (
	"slices"

	"debugger/api"
)

// The parts of a module are small, so that they meet often.
const (
	mostFuncs    = 4
	mostBlocks   = 7
	mostVars     = 5
	mostObjects  = 3
	mostContexts = 4
	lastStmt     = 9
)

// size is how large blocks are: how many operations and parameters one has at most, and how many of its values are late ones, which are mostly used.
type size struct{ ops, params, late int }

// writer writes a module.
type writer struct {
	size
	choose func(n int) int
	module api.Module
	code   *api.Code // the function that is written
	leaf   bool      // whether it has no calls, and is bound to values alone
	values []int     // of the block that is written, as far as there are some
	free   int       // the number of the next value that is defined in it
}

// Module returns a module that ir.Check accepts, and a source that has variables for it. What they are depends on what choose chooses: a number from 0 to n - 1.
func Module(choose func(n int) int) (api.Source, api.Module) {
	return module(choose, size{ops: 12, params: 3, late: 4})
}

// Wide returns the same with blocks that may have more values at a time than there are registers.
func Wide(choose func(n int) int) (api.Source, api.Module) {
	return module(choose, size{ops: 70, params: 14, late: 24})
}

func module(choose func(n int) int, most size) (api.Source, api.Module) {
	w := &writer{size: most, choose: choose}
	s := api.Source{}
	w.module.Funcs = make([]api.Code, 1+choose(mostFuncs))
	for f := range w.module.Funcs {
		w.module.Funcs[f].Params = choose(min(w.params, api.MaxParams) + 1)
		s.Vars = append(s.Vars, w.vars())
	}
	for f := range w.module.Funcs {
		w.function(f)
	}
	return s, w.module
}

// pick returns an element of a list.
func pick[T any](w *writer, list ...T) T { return list[w.choose(len(list))] }

func (w *writer) vars() []api.VarInfo {
	list := []api.VarInfo{}
	for range w.choose(mostVars + 1) {
		list = append(list, api.VarInfo{Kind: 1 + w.choose(3), Words: 1 + w.choose(5), From: w.choose(4), To: 3 + w.choose(lastStmt-2)})
	}
	return list
}

func (w *writer) function(f int) {
	c := &w.module.Funcs[f]
	w.code, w.leaf = c, w.choose(3) == 0
	c.Contexts = []api.Context{{Parent: -1, Stmt: -1, Func: f}}
	for range w.choose(mostContexts) {
		if !w.leaf {
			c.Contexts = append(c.Contexts, api.Context{Parent: w.choose(len(c.Contexts)), Stmt: w.choose(lastStmt + 1), Func: w.choose(len(w.module.Funcs))})
		}
	}
	for range w.choose(mostObjects + 1) {
		w.object()
	}
	c.Blocks = []api.Block{{Params: c.Params}}
	for range w.choose(mostBlocks) {
		c.Blocks = append(c.Blocks, api.Block{Params: w.choose(w.params + 1)})
	}
	for b := range c.Blocks {
		w.block(b)
	}
}

func (w *writer) object() {
	o := api.Object{Ctx: w.choose(len(w.code.Contexts)), Var: w.choose(mostVars), Words: 1 + w.choose(4)}
	same := func(x api.Object) bool { return x.Ctx == o.Ctx && x.Var == o.Var }
	if !slices.ContainsFunc(w.code.Objects, same) {
		w.code.Objects = append(w.code.Objects, o)
	}
}

func (w *writer) block(number int) {
	b := &w.code.Blocks[number]
	w.values, w.free = nil, b.Params
	for v := range b.Params {
		w.values = append(w.values, v)
	}
	if number > 0 && b.Params > 0 && w.choose(6) == 0 {
		w.returning(b)
		return
	}
	for range w.choose(w.ops) {
		b.Ops = append(b.Ops, w.operation())
	}
	if len(w.values) == 0 {
		b.Ops = append(b.Ops, w.define(api.Op{Kind: api.OpConst, N: w.choose(3)}))
	}
	w.connect(b)
	b.Term = w.terminator(number)
}

// returning writes a block that does nothing but to return its first parameter.
func (w *writer) returning(b *api.Block) {
	for range w.choose(4) {
		b.Ops = append(b.Ops, pick(w, w.position(api.OpAt), w.bind()))
	}
	w.connect(b)
	b.Term = ending(api.Term{Kind: api.TermReturn})
}

// connect says to which values the Binds bind; these may be defined behind them.
func (w *writer) connect(b *api.Block) {
	for i := range b.Ops {
		if s := &b.Ops[i].Src; s.Kind == api.SrcValue {
			s.Val = w.value()
		}
	}
}
