package inline

import (
	"iter"
	"maps"
	"slices"

	"debugger/api"
	"debugger/operation"
)

// site is a call of a leaf whose position is known.
type site struct {
	leaf     api.Code
	call     api.Term
	position api.Op      // the OpMark or OpAt
	bindings []api.Op    // the current bindings, in order
	passed   []int       // the passed values, in order
	places   map[int]int // the place of each of them in that order
}

// siteOf returns the call of one of some leaves that ends a block, and whether one with a position does.
func siteOf(b api.Block, leaves map[int]api.Code) (site, bool) {
	if b.Term.Kind != api.TermCall {
		return site{}, false
	}
	leaf, is := leaves[b.Term.N]
	last := position(b.Ops)
	if !is || last < 0 {
		return site{}, false
	}
	s := site{leaf: leaf, call: b.Term, position: b.Ops[last], bindings: current(b.Ops[:last]), places: map[int]int{}}
	for v := range s.candidates(known(b, last)) {
		if _, passed := s.places[v]; !passed {
			s.places[v] = len(s.passed)
			s.passed = append(s.passed, v)
		}
	}
	return s, true
}

// position returns the index of the last OpMark or OpAt, or -1 if there is none.
func position(ops []api.Op) int {
	for i, o := range slices.Backward(ops) {
		if o.Kind == api.OpMark || o.Kind == api.OpAt {
			return i
		}
	}
	return -1
}

// piece is a piece of a variable: the context, the variable and the number of the piece.
type piece [3]int

func (p piece) compare(q piece) int { return slices.Compare(p[:], q[:]) }

// current returns the latest Bind of each piece, ordered by the pieces.
func current(ops []api.Op) []api.Op {
	latest := map[piece]api.Op{}
	for _, o := range ops {
		if o.Kind == api.OpBind {
			latest[piece{o.Ctx, o.Var, o.Piece}] = o
		}
	}
	list := []api.Op{}
	for _, p := range slices.SortedFunc(maps.Keys(latest), piece.compare) {
		list = append(list, latest[p])
	}
	return list
}

// known returns the values that a block has ahead of one of its operations.
func known(b api.Block, ahead int) map[int]bool {
	values := map[int]bool{}
	for v := range b.Params {
		values[v] = true
	}
	for _, o := range b.Ops[:ahead] {
		if operation.Defines(o.Kind) {
			values[o.Dst] = true
		}
	}
	return values
}

// candidates goes through the values that are to be passed, of which some may be the same; a binding passes a value that is known.
func (s site) candidates(known map[int]bool) iter.Seq[int] {
	return func(yield func(int) bool) {
		for e := range operation.Edges(&s.call) {
			for _, v := range e.Args {
				if !yield(v) {
					return
				}
			}
		}
		for _, o := range s.bindings {
			if o.Src.Kind == api.SrcValue && known[o.Src.Val] && !yield(o.Src.Val) {
				return
			}
		}
	}
}
