package lower

import (
	"debugger/api"
	"debugger/operation"
)

// What the language throws by itself.
const (
	badDivisor = 1
	badIndex   = 2
)

func (w *writer) push(value int) { w.pending = append(w.pending, value) }

// pop returns the latest pending value, which is not pending any more.
func (w *writer) pop() int {
	value := w.top()
	w.pending = w.pending[:len(w.pending)-1]
	return value
}

func (w *writer) top() int { return w.pending[len(w.pending)-1] }

// value writes an expression and returns its value.
func (w *writer) value(x api.Expr) int {
	w.evaluate(x)
	return w.pop()
}

// evaluate writes an expression, whose value becomes pending.
func (w *writer) evaluate(x api.Expr) {
	switch x.Op {
	case api.ExprLiteral:
		w.push(w.constant(x.Number))
	case api.ExprVariable, api.ExprField:
		w.push(w.values[pieceOf(x)])
	case api.ExprElement:
		w.index(x)
		w.push(w.define(api.Op{Kind: api.OpLoad, A: w.pop(), N: w.objects[x.Var]}))
	case api.ExprNegate:
		w.push(w.constant(0))
		w.evaluate(x.Args[0])
		w.apply(api.OpSub)
	case api.ExprNot:
		w.evaluate(x.Args[0])
		w.push(w.constant(0))
		w.apply(api.OpEqual)
	default:
		w.operator(x)
	}
}

// operator writes an expression with two operands.
func (w *writer) operator(x api.Expr) {
	kind := operation.Kind(x.Op)
	if !operation.Binary(kind) {
		panic(refusal(api.ErrForm))
	}
	w.evaluate(x.Args[0])
	w.evaluate(x.Args[1])
	if x.Op == api.ExprDiv || x.Op == api.ExprMod {
		w.checkDivisor()
	}
	w.apply(kind)
}

// apply writes an operation with the two latest pending values, and makes its value pending.
func (w *writer) apply(kind int) {
	b := w.pop()
	a := w.pop()
	w.push(w.binary(kind, a, b))
}

// checkDivisor throws if the latest pending value is 0.
func (w *writer) checkDivisor() {
	continuing, throwing := w.split(), w.goal()
	w.end(api.Term{Kind: api.TermBranch, A: w.top()}, w.edge(continuing), w.edge(throwing))
	w.fork(throwing, badDivisor, continuing)
}

// index writes the index of an element, which becomes pending, and the range check.
func (w *writer) index(x api.Expr) {
	w.evaluate(x.Args[0])
	i := w.top()
	below := w.binary(api.OpLess, i, w.constant(0))
	above := w.binary(api.OpLessEq, w.constant(w.source.Vars[w.f][x.Var].Words), i)
	outside := w.binary(api.OpOr, below, above)
	throwing, continuing := w.goal(), w.split()
	w.end(api.Term{Kind: api.TermBranch, A: outside}, w.edge(throwing), w.edge(continuing))
	w.fork(throwing, badIndex, continuing)
}
