package lines

import (
	"bytes"
	"math/rand/v2"
	"slices"
	"testing"

	"debugger/api"
	"debugger/emit"
	"debugger/optimised"
	"debugger/passes"
)

// chancer writes tables and bytes by chance.
type chancer struct{ *rand.Rand }

func chance(k uint64) chancer { return chancer{rand.New(rand.NewPCG(18, k))} }

// number returns a number: a small one, one near a power of two or a limit, or any.
func (r chancer) number() int {
	switch r.IntN(5) {
	case 0:
		return r.IntN(300) - 5
	case 1:
		return 1<<r.IntN(64) + r.IntN(5) - 2
	case 2:
		return -1<<r.IntN(64) + r.IntN(5) - 2
	case 3:
		return []int{10000, 256, 1 << 20, farthest, 2 * farthest, -farthest, -2 * farthest, greatest}[r.IntN(8)] + r.IntN(9) - 4
	}
	return int(r.Uint64())
}

// behind returns a row at an address from one on, which is near a row ahead of it in most things.
func (r chancer) behind(from int, last api.Row) api.Row {
	x := api.Row{Addr: from, Ctx: last.Ctx, Stmt: last.Stmt + r.IntN(12) - 4, Mark: r.IntN(4) > 0}
	switch r.IntN(6) {
	case 0:
		x.Addr += 26 + r.IntN(6)
	case 1:
		x.Addr += r.IntN(300)
	case 2:
		x.Addr += r.IntN(4)
	}
	switch r.IntN(12) {
	case 0:
		x.Ctx = r.IntN(256)
	case 1:
		x.Ctx = 0
	case 2:
		x.Stmt = r.IntN(10000)
	}
	x.Stmt = max(-1, min(9999, x.Stmt))
	if r.IntN(12) == 0 || x.Stmt < 0 {
		return api.Row{Addr: x.Addr, Stmt: -1}
	}
	return x
}

// rows returns up to so many rows from an address on, and the address behind them.
func (r chancer) rows(from, most int) ([]api.Row, int) {
	rows, last := []api.Row{}, api.Row{Stmt: -1}
	for range r.IntN(most + 1) {
		last = r.behind(from, last)
		rows = append(rows, last)
		from = last.Addr + 1
	}
	return rows, from
}

// tables returns tables that are right, with up to so many rows each.
func (r chancer) tables(most int) []api.LineTable {
	l, lo := tables(), 0
	for range r.IntN(9) {
		lo += r.IntN(2) * r.IntN(200)
		rows, hi := r.rows(lo, most)
		hi += r.IntN(2) * r.IntN(200)
		l = append(l, table(lo, hi, rows...))
		lo = hi
	}
	return l
}

// changed returns tables in which something is changed.
func (r chancer) changed(l []api.LineTable) []api.LineTable {
	l = slices.Clone(l)
	if len(l) == 0 || r.IntN(20) == 0 {
		return append(l, r.tables(3)...)
	}
	t := &l[r.IntN(len(l))]
	t.Rows = slices.Clone(t.Rows)
	switch r.IntN(10) {
	case 0:
		t.Lo = r.number()
	case 1:
		t.Hi = r.number()
	case 2:
		t.Lo += r.IntN(9) - 4
	case 3:
		t.Hi += r.IntN(9) - 4
	default:
		if len(t.Rows) > 0 {
			r.changeRow(&t.Rows[r.IntN(len(t.Rows))])
		}
	}
	return l
}

func (r chancer) changeRow(x *api.Row) {
	n := r.number()
	switch r.IntN(6) {
	case 0:
		x.Addr = n
	case 1:
		x.Addr += r.IntN(7) - 3
	case 2:
		x.Ctx = n
	case 3:
		x.Stmt = n
	case 4:
		x.Stmt = -1
	case 5:
		x.Mark = !x.Mark
	}
}

// operation returns an operation, but for the end.
func (r chancer) operation() []byte {
	switch r.IntN(40) {
	case 0:
		return ops(byte(6 + r.IntN(10)))
	case 1, 2:
		return address(r.number() & greatest)
	case 3:
		return context(r.number() & greatest)
	case 4, 5:
		return statement(r.number())
	case 6, 7, 8, 9:
		return address(r.IntN(40))
	case 10, 11:
		return context(r.IntN(256))
	case 12, 13, 14, 15:
		return statement(r.IntN(30) - 5)
	case 16, 17:
		return ops(4)
	case 18, 19:
		return ops(5)
	}
	return ops(byte(17 + r.IntN(239)))
}

// program returns a program of any operations.
func (r chancer) program() []byte {
	b := []byte{}
	for range r.IntN(14) {
		b = append(b, r.operation()...)
	}
	return append(b, 0)
}

// section returns the bytes of tables with programs of any operations.
func (r chancer) section() []byte {
	count := r.IntN(4)
	b, lo := uintBytes(count), 0
	if r.IntN(30) == 0 {
		b = uintBytes(r.IntN(12))
	}
	for range count {
		lo += r.IntN(3)
		hi := lo + r.IntN(500)
		switch r.IntN(16) {
		case 0:
			b = append(b, head(r.number()&greatest, hi)...)
		case 1:
			b = append(b, head(lo, r.number()&greatest)...)
		case 2:
			b = append(b, head(greatest-r.IntN(60), hi)...)
		default:
			b = append(b, head(lo, hi)...)
		}
		b = append(b, r.program()...)
		lo = hi
	}
	return b
}

// spoilt returns bytes in which something is changed.
func (r chancer) spoilt(b []byte) []byte {
	at := r.IntN(len(b))
	b = slices.Clone(b)
	switch r.IntN(7) {
	case 0:
		b[at] ^= 1 << r.IntN(8)
	case 1:
		b[at] = byte(r.IntN(256))
	case 2:
		return b[:at]
	case 3:
		return slices.Delete(b, at, at+1)
	case 4:
		return slices.Insert(b, at, byte(r.IntN(256)))
	case 5:
		return slices.Insert(b, at, slices.Clone(b[at:min(len(b), at+r.IntN(9))])...)
	case 6:
		return slices.Insert(b, at, r.operation()...)
	}
	return b
}

// expectTables checks what the functions say of tables against the second implementation, and returns whether they are right.
func expectTables(t *testing.T, l []api.LineTable) bool {
	t.Helper()
	right := Right(l)
	if right != reckonRight(l) {
		t.Fatalf("P18.1: it is %t that these are right: %v", right, l)
	}
	b := Encode(l)
	if want := reckonEncode(l); !bytes.Equal(b, want) {
		t.Fatalf("P18.3: the bytes of %v are %v, not %v", l, b, want)
	}
	if !right {
		return false
	}
	if back, e := Decode(b); e != api.OK || !equal(back, l) {
		t.Fatalf("P18.4: the error of the bytes of %v is %d, their tables are %v", l, e, back)
	}
	return true
}

// expectBytes checks the tables of bytes against the second implementation, and returns the error.
func expectBytes(t *testing.T, b []byte) api.Errno {
	t.Helper()
	l, e := Decode(b)
	want, err := reckonDecode(b)
	if e != err || !equal(l, want) {
		t.Fatalf("P18.4: the error of %v is %d, the tables are %v, not %d and %v", b, e, l, err, want)
	}
	if e == api.OK {
		expectTables(t, l)
	}
	return e
}

// expectRow checks the row at an address against the second implementation, and returns whether there is one.
func expectRow(t *testing.T, l api.LineTable, addr int) bool {
	t.Helper()
	r, has := At(l, addr)
	if want, is := reckonAt(l, addr); r != want || has != is {
		t.Fatalf("P18.5: at %d of %v there is %v and %t, not %v and %t", addr, l, r, has, want, is)
	}
	return has
}

func TestTablesByChance(t *testing.T) {
	r := chance(1)
	right := map[bool]int{}
	for range 20000 {
		l := r.tables(20)
		if !expectTables(t, l) {
			t.Fatalf("P18.1: these are not right: %v", l)
		}
		for range 2 {
			l = r.changed(l)
			right[expectTables(t, l)]++
		}
	}
	t.Logf("right are %v", right)
	if min(right[true], right[false]) < 5000 {
		t.Errorf("only %v", right)
	}
}

// Tables that have about as many rows or bytes as they may.
func TestLargeTablesByChance(t *testing.T) {
	r := chance(2)
	right, full := map[bool]int{}, 0
	for range 100 {
		l := r.tables(3000)
		is := expectTables(t, l)
		right[is]++
		if is && len(Encode(l)) > api.MaxBytes/4 {
			full++
		}
	}
	t.Logf("right are %v, %d with many bytes", right, full)
	if min(right[true], right[false], full) < 15 {
		t.Errorf("only %v, %d with many bytes", right, full)
	}
}

func TestBytesByChance(t *testing.T) {
	r := chance(3)
	counts := map[string]map[api.Errno]int{}
	try := func(kind string, b []byte) {
		if counts[kind] == nil {
			counts[kind] = map[api.Errno]int{}
		}
		counts[kind][expectBytes(t, b)]++
	}
	for range 40000 {
		b := r.section()
		try("programs", b)
		try("changed programs", r.spoilt(b))
		b = r.spoilt(Encode(r.tables(8)))
		try("changed tables", b)
		try("twice changed tables", r.spoilt(append(b, 0)))
		noise := make([]byte, r.IntN(12))
		for n := range noise {
			noise[n] = byte(r.Uint32()) >> r.IntN(8)
		}
		try("noise", noise)
	}
	t.Log(counts)
	for kind, all := range counts {
		for _, e := range []api.Errno{api.OK, api.ErrRange, api.ErrTruncated, api.ErrForm, api.ErrLimit} {
			if all[e] < 100 && (kind != "noise" || e != api.ErrRange) {
				t.Errorf("only %d times the error %d of %s", all[e], e, kind)
			}
		}
	}
}

func TestRowsByChance(t *testing.T) {
	r := chance(4)
	has := map[bool]int{}
	for range 5000 {
		l := r.tables(12)
		if r.IntN(2) > 0 {
			l = r.changed(r.changed(l))
		}
		for _, x := range l {
			if r.IntN(3) == 0 {
				r.Shuffle(len(x.Rows), func(a, b int) { x.Rows[a], x.Rows[b] = x.Rows[b], x.Rows[a] })
			}
			for range 12 {
				has[expectRow(t, x, x.Lo+r.IntN(200)-2)]++
				has[expectRow(t, x, x.Hi-r.IntN(200)+1)]++
				has[expectRow(t, x, r.number())]++
			}
			for _, y := range x.Rows {
				has[expectRow(t, x, y.Addr)]++
			}
		}
	}
	t.Logf("there are rows: %v", has)
	if min(has[true], has[false]) < 50000 {
		t.Errorf("only %v", has)
	}
}

// The tables of programs at all levels are right.
func TestTablesOfPrograms(t *testing.T) {
	r := rand.New(rand.NewPCG(18, 5))
	rows, several := [3]int{}, [3]int{}
	for range 200 {
		_, m := passes.Program(t, r.IntN)
		for level := range rows {
			for _, keep := range []bool{false, true} {
				u, e := emit.Emit(optimised.Module(m, level), keep)
				if e != api.OK {
					t.Fatalf("the error of a unit is %d", e)
				}
				l := Of(u)
				if !equal(l, reckonOf(u)) || !expectTables(t, l) {
					t.Fatalf("P18.1: the tables of a unit are %v", l)
				}
				expectNew(t, l)
				expectNewTables(t, Encode(l))
				if len(l) > 1 {
					several[level]++
				}
				for _, x := range l {
					rows[level] += len(x.Rows)
					for addr := x.Lo - 1; addr <= x.Hi; addr++ {
						if expectRow(t, x, addr) != (addr >= x.Lo && addr < x.Hi) {
							t.Fatalf("P18.5: it is wrong whether there is a row at %d of %v", addr, x)
						}
					}
				}
			}
		}
	}
	t.Logf("rows %v, units with several tables %v", rows, several)
	if slices.Min(rows[:]) < 2000 || slices.Min(several[:]) < 100 {
		t.Errorf("only %v rows and %v units with several tables", rows, several)
	}
}
