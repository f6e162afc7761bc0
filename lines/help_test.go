package lines

import (
	"bytes"
	"encoding/binary"
	"slices"
	"testing"

	"debugger/api"
)

const (
	greatest = 1<<63 - 1
	least    = -1 << 63
)

// row returns a row of the context 0 without Mark, mark one with Mark, and in the same row in another context.
func row(addr, stmt int) api.Row  { return api.Row{Addr: addr, Stmt: stmt} }
func mark(addr, stmt int) api.Row { return api.Row{Addr: addr, Stmt: stmt, Mark: true} }
func in(ctx int, r api.Row) api.Row {
	r.Ctx = ctx
	return r
}

func table(lo, hi int, rows ...api.Row) api.LineTable {
	return api.LineTable{Lo: lo, Hi: hi, Rows: rows}
}

func tables(l ...api.LineTable) []api.LineTable { return l }

// dense returns rows at so many addresses from one on.
func dense(from, count int) []api.Row {
	rows := []api.Row{}
	for addr := range count {
		rows = append(rows, mark(from+addr, 0))
	}
	return rows
}

func equalTable(a, b api.LineTable) bool {
	return a.Lo == b.Lo && a.Hi == b.Hi && slices.Equal(a.Rows, b.Rows)
}

// equal tells whether two lists of tables are the same; nil and empty lists are.
func equal(a, b []api.LineTable) bool { return slices.EqualFunc(a, b, equalTable) }

// uintBytes and intBytes return numbers as bytes, by another way than wire.
func uintBytes(n int) []byte { return binary.AppendUvarint(nil, uint64(n)) }
func intBytes(n int) []byte  { return binary.AppendVarint(nil, int64(n)) }

// head returns the beginning of a table.
func head(lo, hi int) []byte { return append(uintBytes(lo), uintBytes(hi)...) }

// address, context and statement return the operations with a number, and ops those without one.
func address(n int) []byte   { return append([]byte{1}, uintBytes(n)...) }
func context(n int) []byte   { return append([]byte{2}, uintBytes(n)...) }
func statement(n int) []byte { return append([]byte{3}, intBytes(n)...) }
func ops(b ...byte) []byte   { return b }

// section returns the bytes of a section with so many tables, which follow in parts.
func section(count int, parts ...[]byte) []byte {
	return append(uintBytes(count), slices.Concat(parts...)...)
}

// single returns a section with one table from 0 to 10, whose program ends behind the parts.
func single(parts ...[]byte) []byte {
	return section(1, head(0, 10), slices.Concat(parts...), ops(0))
}

// expectEncoded checks the bytes of tables, and that these are the tables of the bytes.
func expectEncoded(t *testing.T, about string, l []api.LineTable, want []byte) {
	t.Helper()
	if b := Encode(l); !bytes.Equal(b, want) {
		t.Errorf("P18.3: %s: the bytes of %v are %v, not %v", about, l, b, want)
	}
	expectDecoded(t, about, want, l...)
}

// expectRefused checks that tables are not right, and have no bytes.
func expectRefused(t *testing.T, about string, l ...api.LineTable) {
	t.Helper()
	if Right(l) {
		t.Errorf("P18.1: %s: tables are right", about)
	}
	if b := Encode(l); len(b) > 0 {
		t.Errorf("P18.3: %s: tables that are not right have %d bytes", about, len(b))
	}
}

// expectRight checks that tables are right, and the tables of their bytes.
func expectRight(t *testing.T, about string, l ...api.LineTable) {
	t.Helper()
	if !Right(l) {
		t.Errorf("P18.1: %s: tables are not right", about)
	}
	expectDecoded(t, about, Encode(l), l...)
}

// expectDecoded checks the tables of bytes.
func expectDecoded(t *testing.T, about string, b []byte, want ...api.LineTable) {
	t.Helper()
	l, e := Decode(b)
	if e != api.OK || !equal(l, want) {
		t.Errorf("P18.4: %s: the error is %d, or other tables are in %d bytes", about, e, len(b))
		if len(b) < 100 {
			t.Errorf("%v: %v, not %v", b, l, want)
		}
	}
}

// expectError checks the error of bytes, beside which there is nothing.
func expectError(t *testing.T, about string, b []byte, want api.Errno) {
	t.Helper()
	l, e := Decode(b)
	if e != want || len(l) > 0 {
		t.Errorf("P18.4: %s: the error of %v is %d, not %d, beside %d tables", about, b[:min(len(b), 100)], e, want, len(l))
	}
}

// expectAt checks the row at an address.
func expectAt(t *testing.T, l api.LineTable, addr int, want api.Row) {
	t.Helper()
	if r, has := At(l, addr); r != want || !has {
		t.Errorf("P18.5: at %d of %v there is %v and %t, not %v", addr, l, r, has, want)
	}
}

// expectNone checks that there is no row at an address.
func expectNone(t *testing.T, l api.LineTable, addr int) {
	t.Helper()
	if r, has := At(l, addr); r != (api.Row{}) || has {
		t.Errorf("P18.5: at %d of %v there is %v and %t", addr, l, r, has)
	}
}
