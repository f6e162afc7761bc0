package lower

import (
	"debugger/api"
	"debugger/checker"
)

// piece is a piece of a variable of the function.
type piece struct{ variable, number int }

// writer writes the code of a function, block by block.
type writer struct {
	source   api.Source
	f        int // the function
	code     api.Code
	objects  map[int]int   // the numbers of the objects, by variable
	stmt     int           // the statement that is being lowered
	here     int           // the block that is being written
	next     int           // the number of the next value that is defined in it
	values   map[piece]int // of the pieces, in it
	pending  []int         // the pending values
	handlers []*goal       // of the try statements whose Body is being lowered, the innermost one last
	ops      int           // how many operations there are in all blocks
}

func newWriter(s api.Source, f int) *writer {
	w := &writer{source: s, f: f, objects: map[int]int{}}
	w.code.Params = len(s.Program.Funcs[f].Params)
	w.code.Contexts = []api.Context{{Parent: -1, Stmt: -1, Func: f}}
	for v, info := range s.Vars[f] {
		if info.Kind == api.VarArray {
			w.objects[v] = len(w.code.Objects)
			w.code.Objects = append(w.code.Objects, api.Object{Var: v, Words: info.Words})
		}
	}
	return w
}

// pieces returns the pieces of a scalar or a record.
func (w *writer) pieces(variable int) []piece {
	info, list := w.source.Vars[w.f][variable], []piece{}
	if info.Kind == api.VarArray {
		return list
	}
	// No variable of a checked source has more; for those of another one there may be no room.
	for number := range min(info.Words, api.MaxFields) {
		list = append(list, piece{variable, number})
	}
	return list
}

// visible returns all pieces that are in scope at the statement.
func (w *writer) visible() []piece {
	list := []piece{}
	for _, v := range checker.Visible(w.source, w.f, w.stmt) {
		list = append(list, w.pieces(v)...)
	}
	return list
}

// pieceOf returns the piece that an expression or a target is.
func pieceOf(x api.Expr) piece {
	switch x.Op {
	case api.ExprVariable:
		return piece{x.Var, 0}
	case api.ExprField:
		return piece{x.Var, x.Number}
	}
	panic(refusal(api.ErrForm))
}

func (w *writer) write(o api.Op) {
	if w.ops == api.MaxOps {
		panic(refusal(api.ErrLimit))
	}
	w.ops++
	b := &w.code.Blocks[w.here]
	b.Ops = append(b.Ops, o)
}

// define writes an operation that defines a value, and returns the number of that.
func (w *writer) define(o api.Op) int {
	o.Dst = w.next
	w.next++
	w.write(o)
	return o.Dst
}

func (w *writer) constant(n int) int { return w.define(api.Op{Kind: api.OpConst, N: n}) }

func (w *writer) binary(kind, a, b int) int { return w.define(api.Op{Kind: kind, A: a, B: b}) }

func (w *writer) mark() { w.write(api.Op{Kind: api.OpMark, N: w.stmt}) }

func (w *writer) at() { w.write(api.Op{Kind: api.OpAt, N: w.stmt}) }

// bind binds a piece to a value, which is the piece's value from then on.
func (w *writer) bind(p piece, value int) {
	w.write(api.Op{Kind: api.OpBind, Var: p.variable, Piece: p.number, Src: api.Src{Kind: api.SrcValue, Val: value}})
	w.values[p] = value
}
