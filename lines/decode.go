package lines

import (
	"debugger/api"
	"debugger/wire"
)

// far is how far from 0 the operations with a number may bring the state.
const far = 1 << 40

// Decode returns the tables of line programs.
func Decode(b []byte) ([]api.LineTable, api.Errno) {
	r := &reader{b: b}
	r.refuse(len(b) > api.MaxBytes, api.ErrLimit)
	l := r.tables()
	r.refuse(r.at < len(b) || !Right(l), api.ErrForm)
	if r.err != api.OK {
		return nil, r.err
	}
	return l, api.OK
}

// reader reads bytes up to the first error; then it returns nothing but zeros, which are the ends of programs.
type reader struct {
	b   []byte
	at  int
	err api.Errno
}

// refuse notes an error if something is wrong and nothing was ahead of it.
func (r *reader) refuse(wrong bool, e api.Errno) {
	if wrong && r.err == api.OK {
		r.err = e
	}
}

// number reads a number with a function of wire.
func (r *reader) number(read func(b []byte, at int) (int, int, api.Errno)) int {
	if r.err != api.OK {
		return 0
	}
	n, next, e := read(r.b, r.at)
	r.at, r.err = next, e
	return n
}

// operation reads the byte with which an operation begins.
func (r *reader) operation() int {
	r.refuse(r.at == len(r.b), api.ErrTruncated)
	if r.err != api.OK {
		return opEnd
	}
	r.at++
	return int(r.b[r.at-1])
}

func (r *reader) tables() []api.LineTable {
	var l []api.LineTable
	count := r.number(wire.Uint)
	r.refuse(count > api.MaxFuncs, api.ErrLimit)
	for len(l) < count && r.err == api.OK {
		lo := r.number(wire.Uint)
		hi := r.number(wire.Uint)
		l = append(l, api.LineTable{Lo: lo, Hi: hi, Rows: r.rows(lo)})
	}
	return l
}

// rows reads a program and returns its rows.
func (r *reader) rows(lo int) []api.Row {
	var rows []api.Row
	state := initial(lo)
	add := func(mark bool) {
		r.refuse(len(rows) == api.MaxRows, api.ErrLimit)
		state.Mark = mark
		rows = append(rows, state)
	}
	for op := r.operation(); op != opEnd; op = r.operation() {
		switch {
		case op == opAddress:
			state.Addr = r.address(state.Addr)
		case op == opContext:
			state.Ctx = r.number(wire.Uint)
			r.refuse(state.Ctx > far, api.ErrRange)
		case op == opStatement:
			state.Stmt = r.statement(state.Stmt)
		case op == opRow || op == opMark:
			add(op == opMark)
		case op >= opShort:
			rise, change := long(op)
			state.Addr, state.Stmt = state.Addr+rise, state.Stmt+change
			add(true)
		default:
			r.refuse(true, api.ErrForm)
		}
	}
	return rows
}

// address reads how much an address is to rise, and returns the new one.
func (r *reader) address(from int) int {
	n := r.number(wire.Uint)
	r.refuse(from < 0 || from > far-n, api.ErrRange) // short operations bring an address from the greatest int to below 0
	return from + n
}

// statement reads how much a statement is to change, and returns the new one.
func (r *reader) statement(from int) int {
	n := r.number(wire.Int)
	r.refuse(n < -2*far || n > 2*far, api.ErrRange)
	to := from + n
	r.refuse(to < -far || to > far, api.ErrRange)
	return to
}
