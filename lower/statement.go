package lower

import (
	"slices"

	"debugger/api"
)

// list lowers statements in order, up to one that nothing follows, and tells whether the end is reached.
func (w *writer) list(statements []api.Stmt) bool {
	for i := range statements {
		if !w.statement(&statements[i]) {
			return false
		}
	}
	return true
}

// statement lowers a statement and tells whether something may follow it.
func (w *writer) statement(s *api.Stmt) bool {
	w.stmt = s.Id
	if s.Kind == api.StmtWhile {
		// Its Mark stands in its header.
		return w.loop(s)
	}
	w.mark()
	switch s.Kind {
	case api.StmtDeclare:
		w.declare(s.Var)
	case api.StmtAssign:
		w.assign(s.Target[0], s.Args[0])
	case api.StmtCall:
		w.call(s)
		for _, x := range s.Target {
			w.bind(pieceOf(x), 0)
		}
	case api.StmtPrint:
		w.write(api.Op{Kind: api.OpPrint, A: w.value(s.Args[0])})
	case api.StmtIf:
		return w.choice(s)
	case api.StmtTry:
		return w.guard(s)
	default:
		w.leave(s)
		return false
	}
	return true
}

// leave lowers a statement that nothing follows.
func (w *writer) leave(s *api.Stmt) {
	switch {
	case s.Kind == api.StmtReturn && s.Func != "":
		w.call(s)
		w.end(api.Term{Kind: api.TermReturn, A: 0})
	case s.Kind == api.StmtReturn:
		w.end(api.Term{Kind: api.TermReturn, A: w.value(s.Args[0])})
	case s.Kind == api.StmtThrow:
		w.throw(w.value(s.Args[0]))
	case s.Kind == api.StmtEnd:
		w.end(api.Term{Kind: api.TermReturn, A: w.constant(0)})
	default:
		panic(refusal(api.ErrForm))
	}
}

func (w *writer) declare(variable int) {
	if object, ok := w.objects[variable]; ok {
		w.write(api.Op{Kind: api.OpZero, N: object})
		return
	}
	for _, p := range w.pieces(variable) {
		w.bind(p, w.constant(0))
	}
}

func (w *writer) assign(target, x api.Expr) {
	if target.Op == api.ExprElement {
		w.index(target)
		value := w.value(x)
		w.write(api.Op{Kind: api.OpStore, A: w.pop(), B: value, N: w.objects[target.Var]})
		return
	}
	value := w.value(x)
	if x.Op == api.ExprVariable || x.Op == api.ExprField {
		// A piece is bound to a value of its own.
		value = w.define(api.Op{Kind: api.OpCopy, A: value})
	}
	w.bind(pieceOf(target), value)
}

// call lowers the call of a statement; the result is the parameter 0 of the block that it leads to.
func (w *writer) call(s *api.Stmt) {
	for _, x := range s.Args {
		w.evaluate(x)
	}
	t := api.Term{Kind: api.TermCall, N: s.Callee, Args: slices.Clone(w.pending)}
	w.pending = w.pending[:0]
	next := w.received()
	edges := []api.Edge{w.edge(next)}
	if h := w.handler(); h != nil {
		edges = append(edges, w.edge(h))
	}
	w.end(t, edges...)
	w.begin(next)
	w.at()
}

// choice lowers a StmtIf.
func (w *writer) choice(s *api.Stmt) bool {
	body, other, behind := w.goal(), w.goal(), w.goal()
	if len(s.Else) == 0 {
		other = behind
	}
	w.end(api.Term{Kind: api.TermBranch, A: w.value(s.Args[0])}, w.edge(body), w.edge(other))
	w.part(body, s.Body, behind)
	if len(s.Else) > 0 {
		w.part(other, s.Else, behind)
	}
	return w.resume(behind)
}

// part lowers a part of a statement in a block of its own, and leads its end, if it is reached, to a goal.
func (w *writer) part(begin *goal, statements []api.Stmt, behind *goal) {
	w.begin(begin)
	if w.list(statements) {
		w.jump(behind)
	}
}

// loop lowers a StmtWhile.
func (w *writer) loop(s *api.Stmt) bool {
	header, body, behind := w.goal(), w.goal(), w.goal()
	w.jump(header)
	w.begin(header)
	w.mark()
	w.end(api.Term{Kind: api.TermBranch, A: w.value(s.Args[0])}, w.edge(body), w.edge(behind))
	w.part(body, s.Body, header)
	return w.resume(behind)
}

// guard lowers a StmtTry.
func (w *writer) guard(s *api.Stmt) bool {
	handler, behind := w.received(), w.goal()
	w.handlers = append(w.handlers, handler)
	reached := w.list(s.Body)
	w.handlers = w.handlers[:len(w.handlers)-1]
	if reached {
		w.jump(behind)
	}
	if handler.reached() {
		w.begin(handler)
		w.bind(piece{s.Var, 0}, 0)
		if w.list(s.Else) {
			w.jump(behind)
		}
	}
	return w.resume(behind)
}
