package inline

import (
	"debugger/api"
	"debugger/operation"
)

// The largest leaf.
const (
	leafBlocks = 12
	leafOps    = 120
)

// leavesOf returns the codes of the functions of a module that are leaves, by their numbers.
func leavesOf(m api.Module) map[int]api.Code {
	leaves := map[int]api.Code{}
	for f, c := range m.Funcs {
		if isLeaf(c) {
			leaves[f] = c
		}
	}
	return leaves
}

func isLeaf(c api.Code) bool {
	if len(c.Blocks) > leafBlocks || operation.Count(c) > leafOps || len(c.Contexts) > 1 {
		return false
	}
	for _, b := range c.Blocks {
		if b.Term.Kind == api.TermCall || b.Term.Kind == api.TermTail || usesEntry(b.Ops) {
			return false
		}
	}
	return true
}

// usesEntry tells whether one of some operations is a Bind to a parameter as it was at the entry of the function.
func usesEntry(ops []api.Op) bool {
	for _, o := range ops {
		if o.Src.Kind == api.SrcEntry {
			return true
		}
	}
	return false
}
