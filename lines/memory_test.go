package lines

import (
	"bytes"
	"slices"
	"testing"

	"debugger/api"
)

// roomy returns a copy of a list with more memory behind it, which holds something else.
func roomy[T any](list []T, more T) []T {
	room := append(slices.Clone(list), slices.Repeat([]T{more}, 50)...)
	return room[:len(list)]
}

// stretch returns a list with the memory behind it.
func stretch[T any](list []T) []T { return list[:cap(list)] }

// roomyTables returns a copy of tables with more memory behind all lists.
func roomyTables(l []api.LineTable) []api.LineTable {
	result := roomy(l, table(5, 6))
	for n := range result {
		result[n].Rows = roomy(l[n].Rows, mark(77, 77))
	}
	return result
}

// whole returns a copy of tables and of all memory behind their lists.
func whole(l []api.LineTable) []api.LineTable {
	result := slices.Clone(stretch(l))
	for n := range result {
		result[n].Rows = slices.Clone(stretch(result[n].Rows))
	}
	return result
}

// note notes the places of the elements of a list, up to its capacity, and tells whether none of them was noted before.
func note[T any](seen map[any]bool, list []T) bool {
	list = stretch(list)
	for n := range list {
		if seen[&list[n]] {
			return false
		}
		seen[&list[n]] = true
	}
	return true
}

func noteTables(seen map[any]bool, l []api.LineTable) bool {
	apart := note(seen, l)
	for _, t := range l {
		apart = apart && note(seen, t.Rows)
	}
	return apart
}

// spoil makes everything in the memory of tables zero.
func spoil(l []api.LineTable) {
	for _, t := range l {
		clear(stretch(t.Rows))
	}
	clear(stretch(l))
}

// expectNew checks that functions leave these tables as they are, and return new memory that is always the same.
func expectNew(t *testing.T, l []api.LineTable) {
	t.Helper()
	given := roomyTables(l)
	before := whole(given)
	seen := map[any]bool{}
	noteTables(seen, given)

	right := Right(given)
	b := Encode(given)
	if right != Right(l) || right != Right(given) || !bytes.Equal(b, Encode(l)) {
		t.Errorf("P3: the same tables are right and not, or have several bytes: %v", l)
	}
	if again := Encode(given); !note(seen, b) || !note(seen, again) {
		t.Errorf("P2: bytes share memory: %v", l)
	}
	u := api.Unit{}
	for _, x := range given {
		u.Funcs = append(u.Funcs, api.FuncCode{Lo: x.Lo, Hi: x.Hi, Rows: x.Rows})
	}
	first, second := Of(u), Of(u)
	if !noteTables(seen, first) || !noteTables(seen, second) {
		t.Errorf("P2: tables of a unit share memory: %v", l)
	}
	spoil(first)
	if !equal(second, l) || !equal(Of(u), l) {
		t.Errorf("P2: the tables of a unit change with others: %v, not %v", second, l)
	}
	for _, x := range given {
		for _, addr := range []int{x.Lo, x.Lo + 1, x.Hi - 1, 77} {
			r, has := At(x, addr)
			if again, did := At(x, addr); r != again || has != did {
				t.Errorf("P3: there are two rows at %d of %v", addr, x)
			}
		}
	}
	if !equal(whole(given), before) {
		t.Errorf("P2: the tables are changed: %v", l)
	}
}

// expectNewTables checks that Decode leaves bytes as they are, and returns new memory that is always the same.
func expectNewTables(t *testing.T, b []byte) {
	t.Helper()
	given := roomy(b, 0)
	before := slices.Clone(stretch(given))
	first, e := Decode(given)
	second, err := Decode(given)
	seen := map[any]bool{}
	if !noteTables(seen, first) || !noteTables(seen, second) {
		t.Errorf("P2: tables share memory: %v", b)
	}
	same := e == err && equal(first, second)
	spoil(first)
	third, last := Decode(slices.Clip(slices.Clone(b)))
	if !same || last != e || !equal(third, second) {
		t.Errorf("P3: the same bytes have several tables: %v", b)
	}
	if !bytes.Equal(stretch(given), before) {
		t.Errorf("P2: the bytes are changed: %v", b)
	}
}

func TestMemory(t *testing.T) {
	for _, l := range [][]api.LineTable{
		nil,
		tables(table(0, 0)),
		tables(table(3, 9, mark(3, 1), in(2, row(5, 900)), row(7, -1)), table(9, 9), table(9, 400, mark(300, 7))),
		tables(table(0, 8000, dense(0, 8000)...)),
		tables(table(3, 9, mark(9, 1), in(2, row(5, 900)), mark(7, -1)), table(9, 2)),
		make([]api.LineTable, 9),
		tables(wide(8000, 0)),
	} {
		expectNew(t, l)
		expectNewTables(t, Encode(l))
	}
	for _, b := range [][]byte{{}, {0}, {0, 0}, {1, 3, 9, 19, 6}, {2, 3, 9, 19, 0}, {2, 3, 9, 19, 0, 4, 9, 19, 0}, {1, 3, 9, 19, 1}, filled(60001)} {
		expectNewTables(t, b)
	}
}

// Memory behind the bytes is not read.
func TestSpareBytes(t *testing.T) {
	b := []byte{1, 3, 9, 19, 1, 1, 4, 0}
	for n := range b {
		expectError(t, "a part", b[:n], api.ErrTruncated)
	}
	expectDecoded(t, "no tables", []byte{0, 1, 3}[:1])
}

func TestNothing(t *testing.T) {
	for _, none := range [][]api.LineTable{nil, {}} {
		if !Right(none) || !bytes.Equal(Encode(none), []byte{0}) {
			t.Errorf("P6: no tables are %t and %v", Right(none), Encode(none))
		}
	}
	for _, none := range [][]api.Row{nil, {}} {
		if b := Encode(tables(api.LineTable{Lo: 1, Hi: 2, Rows: none})); !bytes.Equal(b, []byte{1, 1, 2, 0}) {
			t.Errorf("P6: the bytes are %v", b)
		}
	}
	for _, none := range [][]byte{nil, {}} {
		expectError(t, "no bytes", none, api.ErrTruncated)
	}
	for _, none := range [][]api.FuncCode{nil, {}} {
		if l := Of(api.Unit{Funcs: none}); len(l) > 0 {
			t.Errorf("P6: the tables are %v", l)
		}
	}
}
