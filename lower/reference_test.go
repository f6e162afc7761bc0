package lower

import (
	"slices"

	"debugger/api"
)

// A second implementation of the chapter: a function becomes a graph, in which blocks and values are pointers and what is in scope follows from the declarations; numbers are given when it is complete.

// word is a value of a block.
type word struct{ number int }

// node is a block.
type node struct {
	number int
	params []*word
	steps  []step
	kind   int   // of the terminator
	callee int   // its N
	a      *word // its A, if it uses that
	args   []*word
	exits  [2]exit
}

// step is an operation, with the values that it uses.
type step struct {
	op             api.Op
	dst, a, b, src *word
}

// exit is an edge; to is nil if it leads nowhere.
type exit struct {
	to   *node
	args []*word
}

// spot is a point in a block.
type spot struct {
	*node
	stmt    int
	scope   []int     // the scalars and records in scope
	words   [][]*word // of these, by variable and piece
	pending []*word
	handler *landing // of the innermost try statement whose Body is being lowered
}

// landing is the beginning of a block.
type landing struct {
	spot
	first *word // the parameter ahead of those of the pieces, if there is one
}

type graph struct {
	vars  []api.VarInfo
	nodes []*node // in the order of the first edges to them
}

// reckon returns what Lower should.
func reckon(s api.Source) (api.Module, api.Errno) {
	m := unlimited(s)
	for _, c := range m.Funcs {
		blocks, ops, params := sizes(c)
		if blocks > 400 || ops > 6000 || params > 999 {
			return api.Module{}, api.ErrLimit
		}
	}
	return m, api.OK
}

// unlimited returns the module of a source, however large it is.
func unlimited(s api.Source) api.Module {
	m := api.Module{}
	for f, fn := range s.Program.Funcs {
		g := &graph{vars: s.Vars[f]}
		at := spot{node: &node{}, words: make([][]*word, len(g.vars))}
		g.nodes = append(g.nodes, at.node)
		for v := range fn.Params {
			at.scope = append(at.scope, v)
			at.words[v] = []*word{at.param()}
			at.bind(v, 0, at.words[v][0])
		}
		g.list(at, fn.Body)
		m.Funcs = append(m.Funcs, g.code(f, len(fn.Params)))
	}
	return m
}

// sizes returns how many blocks and operations a code has, and the most parameters of a block.
func sizes(c api.Code) (blocks, ops, params int) {
	for _, b := range c.Blocks {
		ops += len(b.Ops)
		params = max(params, b.Params)
	}
	return len(c.Blocks), ops, params
}

func (n *node) param() *word {
	w := &word{}
	n.params = append(n.params, w)
	return w
}

func (n *node) add(s step) *word {
	if s.op.Kind <= api.OpLoad {
		s.dst = &word{}
	}
	n.steps = append(n.steps, s)
	return s.dst
}

func (n *node) constant(v int) *word { return n.add(step{op: api.Op{Kind: api.OpConst, N: v}}) }

func (n *node) compute(kind int, a, b *word) *word {
	return n.add(step{op: api.Op{Kind: kind}, a: a, b: b})
}

func (at spot) bind(v, p int, w *word) {
	at.add(step{op: api.Op{Kind: api.OpBind, Var: v, Piece: p, Src: api.Src{Kind: api.SrcValue}}, src: w})
	at.words[v][p] = w
}

func (at spot) here(kind int) { at.add(step{op: api.Op{Kind: kind, N: at.stmt}}) }

func (at spot) with(w *word) spot {
	at.pending = append(slices.Clone(at.pending), w)
	return at
}

// take returns the last pending values, and the spot without them.
func (at spot) take(count int) (spot, []*word) {
	last := at.pending[len(at.pending)-count:]
	at.pending = at.pending[:len(at.pending)-count]
	return at, last
}

// land returns the beginning of a block with the pieces in scope, and perhaps a parameter ahead of them and the pending values behind them.
func (g *graph) land(at spot, first bool, pending bool) landing {
	l := landing{spot: spot{node: &node{}, stmt: at.stmt, scope: at.scope, words: make([][]*word, len(g.vars)), handler: at.handler}}
	if first {
		l.first = l.param()
	}
	for _, v := range at.scope {
		l.words[v] = make([]*word, len(at.words[v]))
		for p := range l.words[v] {
			l.bind(v, p, l.param())
		}
	}
	for range at.pending {
		if pending {
			l.pending = append(l.pending, l.param())
		}
	}
	return l
}

func (g *graph) leads(from spot, l landing, first ...*word) exit {
	args := slices.Clone(first)
	for _, v := range l.scope {
		args = append(args, from.words[v]...)
	}
	if len(l.pending) > 0 {
		args = append(args, from.pending...)
	}
	if !slices.Contains(g.nodes, l.node) {
		g.nodes = append(g.nodes, l.node)
	}
	return exit{l.node, args}
}

func (g *graph) jump(from spot, l landing, first ...*word) {
	from.kind, from.exits[0] = api.TermJump, g.leads(from, l, first...)
}

func (g *graph) throw(from spot, w *word) {
	if from.handler != nil {
		g.jump(from, *from.handler, w)
	} else {
		from.kind, from.a = api.TermThrow, w
	}
}

// check writes a branch to a block that continues and one that throws, and returns the first one.
func (g *graph) check(at spot, condition *word, thrown int) spot {
	next, bad := g.land(at, false, true), g.land(at, false, false)
	at.kind, at.a = api.TermBranch, condition
	if thrown == 1 {
		at.exits[0] = g.leads(at, next)
		at.exits[1] = g.leads(at, bad)
	} else {
		at.exits[0] = g.leads(at, bad)
		at.exits[1] = g.leads(at, next)
	}
	bad.here(api.OpAt)
	g.throw(bad.spot, bad.constant(thrown))
	next.here(api.OpAt)
	return next.spot
}

func (g *graph) value(at spot, x api.Expr) (spot, *word) {
	at, last := g.expression(at, x).take(1)
	return at, last[0]
}

// expression returns the spot behind an expression, with its value pending.
func (g *graph) expression(at spot, x api.Expr) spot {
	switch {
	case x.Op == api.ExprLiteral:
		return at.with(at.constant(x.Number))
	case x.Op == api.ExprVariable:
		return at.with(at.words[x.Var][0])
	case x.Op == api.ExprField:
		return at.with(at.words[x.Var][x.Number])
	case x.Op == api.ExprElement:
		at, last := g.element(at, x).take(1)
		return at.with(at.add(step{op: api.Op{Kind: api.OpLoad, N: g.object(x.Var)}, a: last[0]}))
	case x.Op == api.ExprNegate:
		at = g.expression(at.with(at.constant(0)), x.Args[0])
	case x.Op == api.ExprNot:
		at = g.expression(at, x.Args[0])
		at = at.with(at.constant(0))
	default:
		at = g.expression(g.expression(at, x.Args[0]), x.Args[1])
	}
	if x.Op == api.ExprDiv || x.Op == api.ExprMod {
		_, last := at.take(1)
		at = g.check(at, last[0], 1)
	}
	kind := map[int]int{api.ExprNegate: api.OpSub, api.ExprNot: api.OpEqual, api.ExprAdd: api.OpAdd, api.ExprSub: api.OpSub, api.ExprMul: api.OpMul, api.ExprDiv: api.OpDiv, api.ExprMod: api.OpMod, api.ExprAnd: api.OpAnd,
		api.ExprOr: api.OpOr, api.ExprXor: api.OpXor, api.ExprLess: api.OpLess, api.ExprLessEq: api.OpLessEq, api.ExprEqual: api.OpEqual, api.ExprNotEqual: api.OpNotEqual}[x.Op]
	at, last := at.take(2)
	return at.with(at.compute(kind, last[0], last[1]))
}

// element returns the spot behind the range check of an element, with the index pending.
func (g *graph) element(at spot, x api.Expr) spot {
	at = g.expression(at, x.Args[0])
	_, last := at.take(1)
	low := at.compute(api.OpLess, last[0], at.constant(0))
	high := at.compute(api.OpLessEq, at.constant(g.vars[x.Var].Words), last[0])
	return g.check(at, at.compute(api.OpOr, low, high), 2)
}

// object returns the number of an array.
func (g *graph) object(v int) int {
	count := 0
	for _, info := range g.vars[:v] {
		if info.Kind == api.VarArray {
			count++
		}
	}
	return count
}

// list returns the spot behind statements, and whether it is reached.
func (g *graph) list(at spot, list []api.Stmt) (spot, bool) {
	ok := true
	for _, s := range list {
		if ok {
			at.stmt = s.Id
			at, ok = g.statement(at, s)
		}
	}
	return at, ok
}

// branch writes a list in a block of its own that leads to another one.
func (g *graph) branch(from landing, list []api.Stmt, to landing) {
	if end, ok := g.list(from.spot, list); ok {
		g.jump(end, to)
	}
}

func (g *graph) reached(l landing) (spot, bool) { return l.spot, slices.Contains(g.nodes, l.node) }

func (g *graph) statement(at spot, s api.Stmt) (spot, bool) {
	if s.Kind == api.StmtWhile {
		header := g.land(at, false, false)
		g.jump(at, header)
		header.here(api.OpMark)
		from, c := g.value(header.spot, s.Args[0])
		body, behind := g.land(from, false, false), g.land(from, false, false)
		from.kind, from.a, from.exits = api.TermBranch, c, [2]exit{g.leads(from, body), g.leads(from, behind)}
		g.branch(body, s.Body, header)
		return behind.spot, true
	}
	at.here(api.OpMark)
	var w *word
	switch s.Kind {
	case api.StmtDeclare:
		return g.declare(at, s.Var), true
	case api.StmtAssign:
		return g.assign(at, s.Target[0], s.Args[0]), true
	case api.StmtPrint:
		at, w = g.value(at, s.Args[0])
		at.add(step{op: api.Op{Kind: api.OpPrint}, a: w})
		return at, true
	case api.StmtIf:
		body, other, behind := g.land(at, false, false), g.land(at, false, false), g.land(at, false, false)
		at, w = g.value(at, s.Args[0])
		at.kind, at.a, at.exits[0] = api.TermBranch, w, g.leads(at, body)
		if len(s.Else) == 0 {
			at.exits[1] = g.leads(at, behind)
			g.branch(body, s.Body, behind)
		} else {
			at.exits[1] = g.leads(at, other)
			g.branch(body, s.Body, behind)
			g.branch(other, s.Else, behind)
		}
		return g.reached(behind)
	case api.StmtTry:
		return g.try(at, s)
	case api.StmtThrow:
		at, w = g.value(at, s.Args[0])
		g.throw(at, w)
		return at, false
	case api.StmtEnd:
		at.kind, at.a = api.TermReturn, at.constant(0)
		return at, false
	}
	if s.Func == "" {
		at, w = g.value(at, s.Args[0])
		at.kind, at.a = api.TermReturn, w
		return at, false
	}
	behind := g.call(at, s)
	if s.Kind == api.StmtReturn {
		behind.kind, behind.a = api.TermReturn, behind.first
	} else if len(s.Target) > 0 {
		behind.bind(s.Target[0].Var, 0, behind.first)
	}
	return behind.spot, s.Kind == api.StmtCall
}

func (g *graph) declare(at spot, v int) spot {
	if g.vars[v].Kind == api.VarArray {
		at.add(step{op: api.Op{Kind: api.OpZero, N: g.object(v)}})
		return at
	}
	at.scope = append(slices.Clone(at.scope), v)
	at.words[v] = make([]*word, g.vars[v].Words)
	for p := range at.words[v] {
		at.bind(v, p, at.constant(0))
	}
	return at
}

func (g *graph) assign(at spot, target, x api.Expr) spot {
	if target.Op == api.ExprElement {
		at, last := g.expression(g.element(at, target), x).take(2)
		at.add(step{op: api.Op{Kind: api.OpStore, N: g.object(target.Var)}, a: last[0], b: last[1]})
		return at
	}
	at, w := g.value(at, x)
	if x.Op == api.ExprVariable || x.Op == api.ExprField {
		w = at.add(step{op: api.Op{Kind: api.OpCopy}, a: w})
	}
	at.bind(target.Var, target.Number, w)
	return at
}

func (g *graph) call(at spot, s api.Stmt) landing {
	for _, x := range s.Args {
		at = g.expression(at, x)
	}
	at, args := at.take(len(s.Args))
	behind := g.land(at, true, false)
	at.kind, at.callee, at.args, at.exits[0] = api.TermCall, s.Callee, args, g.leads(at, behind)
	if at.handler != nil {
		at.exits[1] = g.leads(at, *at.handler)
	}
	behind.here(api.OpAt)
	return behind
}

func (g *graph) try(at spot, s api.Stmt) (spot, bool) {
	handler, behind := g.land(at, true, false), g.land(at, false, false)
	at.handler = &handler
	if end, ok := g.list(at, s.Body); ok {
		g.jump(end, behind)
	}
	if slices.Contains(g.nodes, handler.node) {
		in := handler
		in.scope = append(slices.Clone(in.scope), s.Var)
		in.words[s.Var] = make([]*word, 1)
		in.bind(s.Var, 0, handler.first)
		g.branch(in, s.Else, behind)
	}
	return g.reached(behind)
}

// code returns the graph with numbers.
func (g *graph) code(f, params int) api.Code {
	c := api.Code{Params: params, Contexts: []api.Context{{Parent: -1, Stmt: -1, Func: f}}}
	for v, info := range g.vars {
		if info.Kind == api.VarArray {
			c.Objects = append(c.Objects, api.Object{Var: v, Words: info.Words})
		}
	}
	for i, n := range g.nodes {
		n.number = i
		next := 0
		for _, w := range n.params {
			w.number, next = next, next+1
		}
		for _, s := range n.steps {
			if s.dst != nil {
				s.dst.number, next = next, next+1
			}
		}
	}
	for _, n := range g.nodes {
		c.Blocks = append(c.Blocks, n.block())
	}
	return c
}

func (n *node) block() api.Block {
	b := api.Block{Params: len(n.params), Term: api.Term{Kind: n.kind, N: n.callee, A: of(n.a), Args: numbers(n.args)}}
	for _, s := range n.steps {
		o := s.op
		o.Dst, o.A, o.B, o.Src.Val = of(s.dst), of(s.a), of(s.b), of(s.src)
		b.Ops = append(b.Ops, o)
	}
	for i, e := range n.exits {
		b.Term.To[i] = api.Edge{Block: -1}
		if e.to != nil {
			b.Term.To[i] = api.Edge{Block: e.to.number, Args: numbers(e.args)}
		}
	}
	return b
}

func of(w *word) int {
	if w == nil {
		return 0
	}
	return w.number
}

func numbers(list []*word) []int {
	l := []int{}
	for _, w := range list {
		l = append(l, w.number)
	}
	return l
}
