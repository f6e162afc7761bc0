package ir

import "debugger/api"

// Limits of a code that package api does not name.
const (
	mostContexts = 64
	mostObjects  = 64
	mostParams   = 999  // of a block
	lastValue    = 9999 // the greatest number of a value
	lastStmt     = 9999 // the greatest number of a statement
)

func within(n, least, greatest int) bool { return n >= least && n <= greatest }

func tooLarge(c api.Code) bool {
	ops := 0
	for _, b := range c.Blocks {
		ops += len(b.Ops)
	}
	return len(c.Blocks) > api.MaxBlocks || ops > api.MaxOps || len(c.Contexts) > mostContexts || len(c.Objects) > mostObjects
}

// soundParams checks the numbers of parameters.
func soundParams(c api.Code) bool {
	for _, b := range c.Blocks {
		if !within(b.Params, 0, mostParams) {
			return false
		}
	}
	return within(c.Params, 0, api.MaxParams) && len(c.Blocks) > 0 && c.Blocks[0].Params == c.Params
}

func soundContexts(list []api.Context) bool {
	for i, x := range list {
		if !within(x.Func, 0, api.MaxFuncs-1) {
			return false
		}
		if i > 0 && !(within(x.Parent, 0, i-1) && within(x.Stmt, 0, lastStmt)) {
			return false
		}
	}
	return len(list) > 0 && list[0].Parent == -1 && list[0].Stmt == -1
}

func soundObjects(c api.Code) bool {
	seen := map[array]bool{}
	for _, o := range c.Objects {
		a := array{o.Ctx, o.Var}
		if seen[a] || !within(o.Ctx, 0, len(c.Contexts)-1) || !within(o.Var, 0, api.MaxVars-1) || !within(o.Words, 1, api.MaxLen) {
			return false
		}
		seen[a] = true
	}
	return true
}

func soundBlocks(c api.Code) bool {
	for _, b := range c.Blocks {
		if !open(b).sound(c) {
			return false
		}
	}
	return true
}

// array is an array variable of a context.
type array struct{ ctx, variable int }
