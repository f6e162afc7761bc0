package alloc

import (
	"debugger/api"
	"debugger/operation"
)

// piece is a piece of a variable of a context.
type piece struct{ ctx, variable, number int }

// lastUses returns the last use of each value of a block, by its number.
func lastUses(b api.Block, keep bool) []int {
	last := make([]int, numbers(b))
	for v := range b.Params {
		last[v] = -1
	}
	bound := map[piece]int{}
	for k, o := range b.Ops {
		for v := range operation.Values(&o) {
			last[*v] = k
		}
		switch {
		case operation.Defines(o.Kind):
			last[o.Dst] = k
		case o.Kind == api.OpBind:
			bind(bound, o)
		case keep && (o.Kind == api.OpMark || o.Kind == api.OpAt):
			for _, v := range bound {
				last[v] = k // for a value that is defined behind, the definition replaces this
			}
		}
	}
	for v := range operation.Leaving(&b.Term) {
		last[*v] = len(b.Ops)
	}
	return last
}

// numbers returns one more than the greatest number of a block's values, or 0 if it has none.
func numbers(b api.Block) int {
	count := b.Params
	for _, o := range b.Ops {
		if operation.Defines(o.Kind) {
			count = max(count, o.Dst+1)
		}
	}
	return count
}

// bind notes to which value a Bind binds a piece, if it is one.
func bind(bound map[piece]int, o api.Op) {
	p := piece{o.Ctx, o.Var, o.Piece}
	if o.Src.Kind == api.SrcValue {
		bound[p] = o.Src.Val
	} else {
		delete(bound, p)
	}
}
