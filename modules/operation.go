package modules

import "debugger/api"

const (
	least    = -1 << 63
	greatest = 1<<63 - 1
)

// value returns one that the block has, mostly a late one.
func (w *writer) value() int {
	if len(w.values) > w.late && w.choose(3) > 0 {
		return pick(w, w.values[len(w.values)-w.late:]...)
	}
	return pick(w, w.values...)
}

// define returns an operation with the number of the value that it defines.
func (w *writer) define(o api.Op) api.Op {
	w.free += max(0, w.choose(6)-3)
	o.Dst = w.free
	w.values = append(w.values, o.Dst)
	w.free++
	return o
}

func (w *writer) operation() api.Op {
	switch n := w.choose(24); {
	case n < 6:
		return w.position(pick(w, api.OpMark, api.OpMark, api.OpMark, api.OpMark, api.OpAt))
	case n < 10:
		return w.bind()
	case n < 13 || len(w.values) == 0:
		return w.define(api.Op{Kind: api.OpConst, N: pick(w, 0, 0, 0, 1, 1, 2, -1, 5, least, greatest, 1<<40)})
	case n < 16 && len(w.code.Objects) > 0:
		return w.memory()
	case n < 17:
		return api.Op{Kind: api.OpPrint, A: w.value()}
	case n < 19:
		return w.define(api.Op{Kind: api.OpCopy, A: w.value()})
	}
	return w.define(api.Op{Kind: api.OpAdd + w.choose(api.OpNotEqual-api.OpAdd+1), A: w.value(), B: w.value()})
}

// position returns an OpMark or OpAt.
func (w *writer) position(kind int) api.Op {
	return api.Op{Kind: kind, N: w.choose(lastStmt + 1), Ctx: w.choose(len(w.code.Contexts))}
}

// memory returns an OpLoad, OpStore or OpZero.
func (w *writer) memory() api.Op {
	o := api.Op{Kind: api.OpLoad + w.choose(3), N: w.choose(len(w.code.Objects))}
	switch o.Kind {
	case api.OpLoad:
		o.A = w.value()
		return w.define(o)
	case api.OpStore:
		o.A, o.B = w.value(), w.value()
	}
	return o
}

// bind returns an OpBind; the value that it may bind to is still to be chosen.
func (w *writer) bind() api.Op {
	s := api.Src{Kind: pick(w, api.SrcNowhere, api.SrcConstant, api.SrcEntry, api.SrcValue, api.SrcValue, api.SrcValue)}
	if s.Kind == api.SrcEntry && (w.leaf || w.code.Params == 0) {
		s.Kind = api.SrcConstant
	}
	if s.Kind == api.SrcEntry {
		s.Val = w.choose(w.code.Params)
	}
	if s.Kind != api.SrcNowhere {
		s.Add = pick(w, 0, 0, 0, 1, -3, greatest)
	}
	return api.Op{Kind: api.OpBind, Ctx: w.choose(len(w.code.Contexts)), Var: w.choose(mostVars), Piece: w.choose(3), Src: s}
}
