package lines

import (
	"bytes"
	"slices"
	"testing"

	"debugger/api"
)

const farthest = 1 << 40

func TestOperations(t *testing.T) {
	expectDecoded(t, "no tables", []byte{0})
	expectDecoded(t, "no operations", []byte{1, 4, 9, 0}, table(4, 9))
	expectDecoded(t, "an address", single(address(7), ops(4)), table(0, 10, row(7, -1)))
	expectDecoded(t, "a context and a statement", single(context(255), statement(10000), ops(4)), table(0, 10, in(255, row(0, 9999))))
	expectDecoded(t, "a statement below 0", single(statement(5), ops(4), statement(-3), address(1), ops(5)), table(0, 10, row(0, 4), mark(1, 1)))
	expectDecoded(t, "rows", single(statement(5), ops(5), address(1), ops(4), address(1), ops(5)), table(0, 10, mark(0, 4), row(1, 4), mark(2, 4)))
	for op := 16; op <= 255; op++ {
		want := table(1, 50, row(1, 2), mark(2+(op-16)/8, 2+(op-16)%8-2))
		expectDecoded(t, "a short operation", section(1, head(1, 50), statement(3), ops(4), address(1), ops(byte(op), 0)), want)
	}
	expectDecoded(t, "tables", []byte{3, 0, 2, 2, 7, 19, 0, 2, 2, 0, 5, 9, 4, 0}, table(0, 2, in(7, mark(0, 0))), table(2, 2), table(5, 9, row(5, -1)))
}

// Encode writes the shortest of these.
func TestOtherOperations(t *testing.T) {
	want := []api.LineTable{table(0, 10, row(2, -1), in(3, mark(5, 4)), in(3, mark(6, 5)))}
	for _, b := range [][]byte{
		single(address(2), ops(4), context(3), ops(16+3*8+7, 16+8+3)),
		single(address(1), address(0), address(1), ops(4), statement(5), context(3), address(3), ops(5), ops(16+8+3)),
		single(context(9), context(0), statement(9), statement(-9), address(2), ops(4), context(1), context(2), context(3), statement(0), ops(16+3*8+7), address(1), statement(1), ops(5)),
		single(statement(farthest+1), statement(-2*farthest), statement(farthest-1), address(2), ops(4), address(2), statement(7), context(farthest), context(3), ops(16+8+0, 16+8+3)),
		single(address(2), ops(4), statement(farthest+1), statement(-farthest+4), address(3), context(3), ops(5, 27), address(farthest-6), context(farthest), statement(-farthest-5)),
	} {
		expectDecoded(t, "other operations", b, want...)
	}
}

func TestBehindTheLastRow(t *testing.T) {
	want := table(0, 10, mark(0, 0))
	for _, b := range [][]byte{address(11), address(farthest), context(256), context(farthest), statement(farthest), statement(-farthest), statement(-2)} {
		expectDecoded(t, "behind the last row", single(ops(19), b), want)
	}
	expectDecoded(t, "without a row", single(address(farthest), context(farthest), statement(-farthest+1)), table(0, 10))
	expectDecoded(t, "the next table", section(2, head(0, 10), ops(19), address(50), context(4), statement(9), ops(0), head(10, 12), ops(4, 0)), want, table(10, 12, row(10, -1)))
}

func TestEndOfBytes(t *testing.T) {
	l := tables(table(200, 900, mark(200, 3), in(200, row(600, 9999)), row(601, -1)), table(900, 901), table(70000, 80000, row(70000, -1), mark(79999, 200)))
	b := Encode(l)
	expectDecoded(t, "all of it", b, l...)
	for n := range b {
		expectError(t, "a part", b[:n], api.ErrTruncated)
		expectError(t, "a part ahead of more memory", slices.Clip(b[:n]), api.ErrTruncated)
	}
	for _, more := range []byte{0, 1, 128, 255} {
		expectError(t, "bytes behind", append(slices.Clip(b), more), api.ErrForm)
		expectError(t, "bytes behind no tables", []byte{0, more}, api.ErrForm)
	}
	expectError(t, "a table more", append(slices.Clip(b), 0, 0, 0), api.ErrForm)
	expectError(t, "a table fewer", append([]byte{4}, b[1:]...), api.ErrTruncated)
}

func TestNumberOfDecodedTables(t *testing.T) {
	b := []byte{}
	for n := range 8 {
		b = append(b, byte(n), byte(n+1), 19, 0)
	}
	l, e := Decode(append([]byte{8}, b...))
	if e != api.OK || len(l) != 8 || !equalTable(l[7], table(7, 8, mark(7, 0))) {
		t.Errorf("P18.4: the error of 8 tables is %d: %v", e, l)
	}
	expectError(t, "7 and bytes behind", append([]byte{7}, b...), api.ErrForm)
	expectError(t, "9 tables", append([]byte{9}, append(b, 8, 9, 0)...), api.ErrLimit)
	expectError(t, "9 tables, of which there are none", []byte{9}, api.ErrLimit)
	for _, count := range []int{10, 127, 128, 1 << 32, 1<<32 + 1, greatest} {
		expectError(t, "more tables", section(count, []byte{0, 1, 0}), api.ErrLimit)
	}
	expectError(t, "a table of which there is none", section(2, head(0, 3), ops(0)), api.ErrTruncated)
}

// filled returns a section of so many bytes, with a table without rows.
func filled(size int) []byte {
	b := []byte{1, 0, 9}
	if size%2 == 1 {
		b = []byte{1, 0, 200, 1}
	}
	for len(b) < size-1 {
		b = append(b, context(1)...)
	}
	return append(b, 0)
}

func TestNumberOfDecodedBytes(t *testing.T) {
	expectDecoded(t, "the most bytes but one", filled(api.MaxBytes-1), table(0, 200))
	expectDecoded(t, "the most bytes", filled(api.MaxBytes), table(0, 9))
	expectError(t, "a byte more", filled(api.MaxBytes+1), api.ErrLimit)
	expectError(t, "two bytes more", filled(api.MaxBytes+2), api.ErrLimit)
	expectError(t, "a byte behind the most", append(filled(api.MaxBytes), 0), api.ErrLimit)
	expectError(t, "a byte behind", append(filled(api.MaxBytes-1), 0), api.ErrForm)
	expectError(t, "no end", append(filled(api.MaxBytes - 2)[:api.MaxBytes-3], 2, 1, 2), api.ErrTruncated)
	for _, first := range []byte{0, 6, 9, 128, 255} {
		expectError(t, "a byte more, and something else", bytes.Repeat([]byte{first}, api.MaxBytes+1), api.ErrLimit)
	}
}

func TestNumberOfDecodedRows(t *testing.T) {
	most := api.MaxRows
	marks := func(count int) []byte { return append([]byte{19}, bytes.Repeat([]byte{26}, count-1)...) }
	top := 1 << 20
	expectDecoded(t, "the most rows", section(1, head(0, top), marks(most), ops(0)), table(0, top, dense(0, most)...))
	expectDecoded(t, "the most rows of two tables", section(2, head(0, most), marks(most-3), ops(0), head(most, top), marks(3), ops(0)),
		table(0, most, dense(0, most-3)...), table(most, top, dense(most, 3)...))
	for _, op := range []byte{4, 5, 16, 26, 255} {
		expectError(t, "a row more", section(1, head(0, top), marks(most), ops(op, 0)), api.ErrLimit)
		expectError(t, "a row more, at once", section(1, head(0, top), marks(most), ops(op)), api.ErrLimit)
		expectError(t, "a row more, ahead of an operation that there is not", section(1, head(0, top), marks(most), ops(op, 6)), api.ErrLimit)
		expectError(t, "a row more in the second table", section(2, head(0, 9), ops(0), head(9, top), marks(most), ops(op)), api.ErrLimit)
	}
	expectError(t, "no row more, but no end", section(1, head(0, top), marks(most), address(1)), api.ErrTruncated)
	expectError(t, "a row more in two tables", section(2, head(0, most), marks(most), ops(0), head(most, top), marks(1), ops(0)), api.ErrForm)
	expectError(t, "a row more in two tables, and no end", section(2, head(0, most), marks(most), ops(0), head(most, top), marks(1)), api.ErrTruncated)
}

func TestTablesThatAreNotRight(t *testing.T) {
	top := 1 << 20
	for _, b := range [][]byte{
		section(1, head(5, 4), ops(0)),
		section(1, head(0, top+1), ops(0)),
		section(1, head(top+1, top+1), ops(0)),
		section(1, head(0, greatest), ops(0)),
		section(1, head(greatest, greatest), ops(0)),
		section(1, head(greatest, 0), ops(19, 0)),
		section(1, head(farthest, farthest+9), ops(19, 255, 0)),
		section(2, head(2, 5), ops(0), head(4, 6), ops(0)),
		single(address(10), statement(1), ops(4)),
		single(statement(1), ops(4, 4)),
		single(statement(1), ops(5, 5)),
		single(ops(19, 18)),
		single(context(256), ops(19)),
		single(context(farthest), ops(19)),
		single(statement(10001), ops(4)),
		single(statement(-1), ops(4)),
		single(statement(farthest+1), ops(4)),
		single(statement(-farthest+1), ops(4)),
		single(ops(5)),
		single(ops(18)),
		single(context(1), ops(4)),
	} {
		expectError(t, "tables that are not right", b, api.ErrForm)
		expectError(t, "tables that are not right, and no end", b[:len(b)-1], api.ErrTruncated)
	}
	expectDecoded(t, "the top", section(1, head(top, top), ops(0)), table(top, top))
}

func TestOperationsThatThereAreNot(t *testing.T) {
	for op := byte(6); op <= 15; op++ {
		expectError(t, "no operation", single(ops(op)), api.ErrForm)
		expectError(t, "no operation, at once", section(1, head(0, 10), ops(op)), api.ErrForm)
		expectError(t, "no operation, ahead of a number", section(1, head(0, 10), ops(19, op), ops(1, 255, 0)), api.ErrForm)
		expectError(t, "no operation, behind a number", section(1, head(0, 10), ops(1, 255, 0, op)), api.ErrForm)
	}
}
