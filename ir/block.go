package ir

import (
	"debugger/api"
	"debugger/operation"
)

// block is a block of a code with the place of the operation that defines each value, among its operations.
type block struct {
	api.Block
	places map[int]int
}

func open(b api.Block) block {
	places := map[int]int{}
	for i, o := range b.Ops {
		if operation.Defines(o.Kind) {
			places[o.Dst] = i
		}
	}
	return block{b, places}
}

// has tells whether a value is a parameter or defined by an operation ahead of a place.
func (b block) has(value, place int) bool {
	if within(value, 0, b.Params-1) {
		return true
	}
	at, defined := b.places[value]
	return defined && at < place
}

// hasAll tells whether all values are there when the operations have been executed.
func (b block) hasAll(values ...int) bool {
	for _, v := range values {
		if !b.has(v, len(b.Ops)) {
			return false
		}
	}
	return true
}

// sound checks the operations and the terminator.
func (b block) sound(c api.Code) bool {
	for i, o := range b.Ops {
		if !b.soundValues(o, i) || !b.soundFields(o, c) {
			return false
		}
	}
	return b.soundTerm(b.Term, c)
}

// soundValues checks the values that the operation at a place defines and uses.
func (b block) soundValues(o api.Op, place int) bool {
	// Where two operations define the same value, it has the place of the later one.
	if operation.Defines(o.Kind) && !(within(o.Dst, b.Params, lastValue) && b.places[o.Dst] == place) {
		return false
	}
	usesA, usesB := operation.Uses(o.Kind)
	return (!usesA || b.has(o.A, place)) && (!usesB || b.has(o.B, place))
}

// soundFields checks the other fields of an operation.
func (b block) soundFields(o api.Op, c api.Code) bool {
	if !within(o.Kind, api.OpConst, api.OpBind) || o != stripped(o) {
		return false
	}
	switch o.Kind {
	case api.OpLoad, api.OpStore, api.OpZero:
		return within(o.N, 0, len(c.Objects)-1)
	case api.OpMark, api.OpAt:
		return within(o.N, 0, lastStmt) && within(o.Ctx, 0, len(c.Contexts)-1)
	case api.OpBind:
		return within(o.Ctx, 0, len(c.Contexts)-1) && within(o.Var, 0, api.MaxVars-1) &&
			within(o.Piece, 0, api.MaxFields-1) && b.soundSrc(o.Src, c)
	}
	return true
}

// stripped returns an operation without the fields that its kind does not use.
func stripped(o api.Op) api.Op {
	switch o.Kind {
	case api.OpConst:
		return api.Op{Kind: o.Kind, Dst: o.Dst, N: o.N}
	case api.OpCopy:
		return api.Op{Kind: o.Kind, Dst: o.Dst, A: o.A}
	case api.OpLoad:
		return api.Op{Kind: o.Kind, Dst: o.Dst, A: o.A, N: o.N}
	case api.OpStore:
		return api.Op{Kind: o.Kind, A: o.A, B: o.B, N: o.N}
	case api.OpZero:
		return api.Op{Kind: o.Kind, N: o.N}
	case api.OpPrint:
		return api.Op{Kind: o.Kind, A: o.A}
	case api.OpMark, api.OpAt:
		return api.Op{Kind: o.Kind, N: o.N, Ctx: o.Ctx}
	case api.OpBind:
		return api.Op{Kind: o.Kind, Ctx: o.Ctx, Var: o.Var, Piece: o.Piece, Src: o.Src}
	}
	return api.Op{Kind: o.Kind, Dst: o.Dst, A: o.A, B: o.B}
}

func (b block) soundSrc(s api.Src, c api.Code) bool {
	switch s.Kind {
	case api.SrcNowhere:
		return s.Val == 0 && s.Add == 0
	case api.SrcConstant:
		return s.Val == 0
	case api.SrcValue:
		return b.hasAll(s.Val)
	case api.SrcEntry:
		return within(s.Val, 0, c.Params-1)
	}
	return false
}

func (b block) soundTerm(t api.Term, c api.Code) bool {
	plain := t.N == 0 && len(t.Args) == 0
	call := t.A == 0 && within(t.N, 0, api.MaxFuncs-1) && len(t.Args) <= api.MaxParams && b.hasAll(t.Args...)
	switch t.Kind {
	case api.TermJump:
		return t.A == 0 && plain && b.leads(t.To[0], c, 0) && isNone(t.To[1])
	case api.TermBranch:
		return b.hasAll(t.A) && plain && b.leads(t.To[0], c, 0) && b.leads(t.To[1], c, 0)
	case api.TermCall:
		return call && b.leads(t.To[0], c, 1) && (isNone(t.To[1]) || b.leads(t.To[1], c, 1))
	case api.TermReturn, api.TermThrow:
		return b.hasAll(t.A) && plain && isNone(t.To[0]) && isNone(t.To[1])
	case api.TermTail:
		return call && isNone(t.To[0]) && isNone(t.To[1])
	}
	return false
}

// leads tells whether an edge leads to a block and has an argument for each of its parameters but the first ones, which something else gives.
func (b block) leads(e api.Edge, c api.Code, first int) bool {
	return within(e.Block, 1, len(c.Blocks)-1) && len(e.Args) == c.Blocks[e.Block].Params-first && b.hasAll(e.Args...)
}

// isNone tells whether an edge leads nowhere.
func isNone(e api.Edge) bool { return e.Block == -1 && len(e.Args) == 0 }
