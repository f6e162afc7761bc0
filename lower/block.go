package lower

import (
	"slices"

	"debugger/api"
)

// mostParams is how many parameters a block may have.
const mostParams = 999

// goal is a block that edges may lead to and that begins with pieces.
type goal struct {
	block  int     // its number; -1 as long as no edge leads to it
	ahead  int     // how many parameters it has ahead of those of the pieces
	pieces []piece // which have a parameter each
	behind int     // how many parameters it has behind these, for pending values
}

func (g *goal) params() int { return g.ahead + len(g.pieces) + g.behind }

// reached tells whether an edge leads to a goal.
func (g *goal) reached() bool { return g.block >= 0 }

// entry returns the block that the function begins with, whose pieces are the parameters.
func (w *writer) entry() *goal {
	g := &goal{block: -1}
	for v := range w.code.Params {
		g.pieces = append(g.pieces, piece{v, 0})
	}
	w.number(g)
	return g
}

// goal returns one that begins with the pieces that are in scope at the statement.
func (w *writer) goal() *goal { return &goal{block: -1, pieces: w.visible()} }

// received returns a goal as goal does, with a parameter for a result or for a thrown value ahead of the pieces.
func (w *writer) received() *goal {
	g := w.goal()
	g.ahead = 1
	return g
}

// number gives a goal its number when the first edge to it is written, and returns that.
func (w *writer) number(g *goal) int {
	if g.reached() {
		return g.block
	}
	if len(w.code.Blocks) == api.MaxBlocks || g.params() > mostParams {
		panic(refusal(api.ErrLimit))
	}
	g.block = len(w.code.Blocks)
	w.code.Blocks = append(w.code.Blocks, api.Block{Params: g.params()})
	return g.block
}

// edge returns an edge to a goal with some values, those of its pieces, and the pending ones if it has parameters for them.
func (w *writer) edge(g *goal, values ...int) api.Edge {
	args := slices.Clone(values)
	for _, p := range g.pieces {
		args = append(args, w.values[p])
	}
	return api.Edge{Block: w.number(g), Args: append(args, w.pending[:g.behind]...)}
}

// begin begins to write the block of a goal.
func (w *writer) begin(g *goal) {
	w.here, w.next, w.values = g.block, g.params(), map[piece]int{}
	for i, p := range g.pieces {
		w.bind(p, g.ahead+i)
	}
	for i := range g.behind {
		w.pending[i] = g.ahead + len(g.pieces) + i
	}
}

// end ends the block with a terminator; an edge that is not given leads nowhere.
func (w *writer) end(t api.Term, edges ...api.Edge) {
	t.To = [2]api.Edge{{Block: -1}, {Block: -1}}
	copy(t.To[:], edges)
	w.code.Blocks[w.here].Term = t
}

func (w *writer) jump(g *goal) { w.end(api.Term{Kind: api.TermJump}, w.edge(g)) }

// resume begins the block behind something, and tells whether there is one.
func (w *writer) resume(behind *goal) bool {
	if !behind.reached() {
		return false
	}
	w.begin(behind)
	return true
}

// handler returns that of the innermost try statement whose Body is being lowered; nil: there is none.
func (w *writer) handler() *goal {
	if len(w.handlers) == 0 {
		return nil
	}
	return w.handlers[len(w.handlers)-1]
}

// throw ends the block by throwing a value.
func (w *writer) throw(value int) {
	if h := w.handler(); h != nil {
		w.end(api.Term{Kind: api.TermJump}, w.edge(h, value))
		return
	}
	w.end(api.Term{Kind: api.TermThrow, A: value})
}

// split returns a goal that takes the pending values along.
func (w *writer) split() *goal {
	g := w.goal()
	g.behind = len(w.pending)
	return g
}

// fork fills the two blocks behind a branch within a statement: the one that throws a number, and then the one that continues.
func (w *writer) fork(throwing *goal, number int, continuing *goal) {
	w.begin(throwing)
	w.at()
	w.throw(w.constant(number))
	w.begin(continuing)
	w.at()
}
