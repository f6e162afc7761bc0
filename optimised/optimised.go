// Package optimised has modules behind the passes, for the tests of the layers behind these.
package optimised

import (
	"debugger/api"
	"debugger/dead"
	"debugger/fold"
	"debugger/inline"
	"debugger/merge"
	"debugger/sink"
	"debugger/tailcall"
	"debugger/unroll"
)

// Module returns what the passes of a level make of a module: none at level 0, those within blocks at level 1, all at level 2.
func Module(m api.Module, level int) api.Module {
	switch level {
	case 0:
		return m
	case 1:
		return each(m, fold.Fold, merge.Merge, fold.Fold, dead.Dead)
	}
	return each(inline.Inline(m), fold.Fold, merge.Merge, fold.Fold, dead.Dead, unroll.Unroll, dead.Dead, tailcall.Tail, dead.Dead, sink.Sink)
}

// each returns what passes make of each function of a module, one after the other.
func each(m api.Module, list ...func(api.Code) api.Code) api.Module {
	result := api.Module{}
	for _, c := range m.Funcs {
		for _, pass := range list {
			c = pass(c)
		}
		result.Funcs = append(result.Funcs, c)
	}
	return result
}
