package lines

import (
	"encoding/binary"
	"math/big"

	"debugger/api"
)

// The second implementation does word by word what the chapter says, with numbers of any size.

func big64(n int) *big.Int { return big.NewInt(int64(n)) }

// wrapped returns the 64 bits of a number.
func wrapped(n *big.Int) int {
	rest := new(big.Int).And(n, new(big.Int).SetUint64(1<<64-1))
	return int(rest.Uint64())
}

// between tells whether a number is one from another on up to a third.
func between(n, from, to *big.Int) bool { return n.Cmp(from) >= 0 && n.Cmp(to) <= 0 }

// before returns the number ahead of one.
func before(n int) *big.Int { return new(big.Int).Sub(big64(n), big64(1)) }

func reckonRight(l []api.LineTable) bool {
	all, wrong := 0, 0
	needs := func(holds bool) {
		if !holds {
			wrong++
		}
	}
	needs(len(l) <= 8)
	for n, t := range l {
		needs(between(big64(t.Lo), big64(0), big64(1048576)))
		needs(between(big64(t.Hi), big64(t.Lo), big64(1048576)))
		needs(n == 0 || t.Lo >= l[max(0, n-1)].Hi)
		for k, r := range t.Rows {
			all++
			needs(k == 0 || r.Addr > t.Rows[max(0, k-1)].Addr)
			needs(between(big64(r.Addr), big64(t.Lo), before(t.Hi)))
			needs(between(big64(r.Ctx), big64(0), big64(255)))
			needs(between(big64(r.Stmt), big64(-1), big64(9999)))
			needs(r.Stmt != -1 || r.Ctx == 0)
			needs(r.Stmt != -1 || !r.Mark)
		}
	}
	needs(all <= 8000)
	return wrong == 0
}

// reckonProgram returns the program of a table.
func reckonProgram(t api.LineTable) []byte {
	b := []byte{}
	addr, ctx, stmt := t.Lo, 0, -1
	for _, r := range t.Rows {
		if ctx != r.Ctx {
			b = binary.AppendUvarint(append(b, 2), uint64(r.Ctx))
		}
		single := -1
		for op := 16; op <= 255; op++ {
			if r.Mark && addr+(op-16)/8 == r.Addr && stmt+(op-16)%8-2 == r.Stmt {
				single = op
			}
		}
		switch {
		case single >= 0:
			b = append(b, byte(single))
		default:
			if r.Addr > addr {
				b = binary.AppendUvarint(append(b, 1), uint64(r.Addr-addr))
			}
			if r.Stmt != stmt {
				b = binary.AppendVarint(append(b, 3), int64(r.Stmt-stmt))
			}
			b = append(b, map[bool]byte{false: 4, true: 5}[r.Mark])
		}
		addr, ctx, stmt = r.Addr, r.Ctx, r.Stmt
	}
	return append(b, 0)
}

func reckonEncode(l []api.LineTable) []byte {
	if !reckonRight(l) {
		return nil
	}
	b := binary.AppendUvarint(nil, uint64(len(l)))
	for _, t := range l {
		b = binary.AppendUvarint(b, uint64(t.Lo))
		b = binary.AppendUvarint(b, uint64(t.Hi))
		b = append(b, reckonProgram(t)...)
	}
	if len(b) > 60000 {
		return nil
	}
	return b
}

// input is what is left of the bytes. What is wrong ends the reading by a panic with the error.
type input struct{ rest []byte }

func (in *input) take() byte {
	if len(in.rest) == 0 {
		panic(api.ErrTruncated)
	}
	first := in.rest[0]
	in.rest = in.rest[1:]
	return first
}

// groups reads a number of at most so many groups; the last one of these is at most a byte.
func (in *input) groups(most int, last byte) *big.Int {
	n := new(big.Int)
	for k := 1; ; k++ {
		c := in.take()
		if k == most && c > last {
			panic(api.ErrRange)
		}
		if c == 0 && k > 1 {
			panic(api.ErrForm)
		}
		group := new(big.Int).Lsh(big64(int(c%128)), uint(7*(k-1)))
		n.Add(n, group)
		if c < 128 {
			return n
		}
	}
}

func (in *input) uint() *big.Int { return in.groups(9, 127) }

func (in *input) int() *big.Int {
	half, rest := new(big.Int).DivMod(in.groups(10, 1), big64(2), new(big.Int))
	if rest.Sign() == 0 {
		return half
	}
	return new(big.Int).Neg(half.Add(half, big64(1)))
}

// must ends the reading unless something holds.
func must(holds bool, e api.Errno) {
	if !holds {
		panic(e)
	}
}

// table reads a table.
func (in *input) table() api.LineTable {
	addr, ctx, stmt := in.uint(), big64(0), big64(-1)
	t := api.LineTable{Lo: wrapped(addr), Hi: wrapped(in.uint())}
	far, further := big64(1<<40), big64(1<<41)
	row := func(mark bool) {
		t.Rows = append(t.Rows, api.Row{Addr: wrapped(addr), Ctx: wrapped(ctx), Stmt: wrapped(stmt), Mark: mark})
		must(len(t.Rows) <= 8000, api.ErrLimit)
	}
	for {
		switch op := in.take(); op {
		case 0:
			return t
		case 1:
			addr = new(big.Int).Add(addr, in.uint())
			must(addr.Cmp(far) <= 0, api.ErrRange)
		case 2:
			ctx = in.uint()
			must(ctx.Cmp(far) <= 0, api.ErrRange)
		case 3:
			change := in.int()
			stmt = new(big.Int).Add(stmt, change)
			must(between(stmt, new(big.Int).Neg(far), far), api.ErrRange)
			must(between(change, new(big.Int).Neg(further), further), api.ErrRange)
		case 4:
			row(false)
		case 5:
			row(true)
		default:
			must(op > 15, api.ErrForm)
			addr = new(big.Int).Add(addr, big64((int(op)-16)/8))
			stmt = new(big.Int).Add(stmt, big64((int(op)-16)%8-2))
			row(true)
		}
	}
}

func reckonDecode(b []byte) (l []api.LineTable, e api.Errno) {
	if len(b) > 60000 {
		return nil, api.ErrLimit
	}
	defer func() {
		if wrong, is := recover().(api.Errno); is {
			l, e = nil, wrong
		}
	}()
	in := &input{b}
	count := in.uint()
	must(count.Cmp(big64(8)) <= 0, api.ErrLimit)
	for range count.Int64() {
		l = append(l, in.table())
	}
	must(len(in.rest) == 0, api.ErrForm)
	must(reckonRight(l), api.ErrForm)
	return l, api.OK
}

func reckonOf(u api.Unit) []api.LineTable {
	l := make([]api.LineTable, len(u.Funcs))
	for n, f := range u.Funcs {
		l[n].Lo, l[n].Hi = f.Lo, f.Hi
		for _, r := range f.Rows {
			l[n].Rows = append(l[n].Rows, r)
		}
	}
	return l
}

func reckonAt(t api.LineTable, addr int) (found api.Row, has bool) {
	for _, r := range t.Rows {
		if between(big64(addr), big64(t.Lo), before(t.Hi)) && r.Addr <= addr {
			found, has = r, true
		}
	}
	return found, has
}
