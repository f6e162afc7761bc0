package lines

import (
	"testing"

	"debugger/api"
)

func TestExample(t *testing.T) {
	expectEncoded(t, "the example", tables(table(4, 9, mark(5, 9))), []byte{1, 4, 9, 1, 1, 3, 20, 5, 0})
	expectEncoded(t, "the example with the statement 3", tables(table(4, 9, mark(5, 3))), []byte{1, 4, 9, 30, 0})
}

func TestNumberOfTables(t *testing.T) {
	expectRight(t, "no tables")
	l := tables()
	for n := range 8 {
		l = append(l, table(n, n+1, mark(n, n)))
		expectRight(t, "up to 8 tables", l...)
	}
	expectRefused(t, "9 tables", append(l, table(8, 9))...)
	expectRefused(t, "9 empty tables", make([]api.LineTable, 9)...)
	expectRight(t, "8 empty tables", make([]api.LineTable, 8)...)
	expectRefused(t, "many tables", make([]api.LineTable, 1000)...)
}

func TestTablesWithoutRows(t *testing.T) {
	expectRight(t, "without rows", table(3, 7))
	expectRight(t, "without rows", table(0, 0), table(0, 5), table(9, 9), table(9, 12, row(9, -1)))
}

// The most rows may be those of one table, or of several.
func TestNumberOfRows(t *testing.T) {
	most := api.MaxRows
	expectRight(t, "the most rows in one table", table(0, most, dense(0, most)...))
	expectRefused(t, "a row more in one table", table(0, most+1, dense(0, most+1)...))
	expectRight(t, "the most rows in two tables", table(0, most, dense(0, most-1)...), table(most, most+2, dense(most, 1)...))
	expectRefused(t, "a row more in two tables", table(0, most, dense(0, most)...), table(most, most+1, dense(most, 1)...))
	expectRefused(t, "a row more in two tables", table(0, 1, dense(0, 1)...), table(1, most+1, dense(1, most)...))
	l := tables()
	for n := range 8 {
		l = append(l, table(n*1000, n*1000+1000, dense(n*1000, 1000)...))
	}
	expectRight(t, "the most rows in 8 tables", l...)
	l[7] = table(7000, 8001, dense(7000, 1001)...)
	expectRefused(t, "a row more in 8 tables", l...)
}

func TestBounds(t *testing.T) {
	top := 1 << 20
	expectRight(t, "from 0", table(0, 0))
	expectRight(t, "from 0 up to the top", table(0, top, row(0, 1), row(top-1, 2)))
	expectRight(t, "at the top", table(top, top))
	expectRight(t, "an address at the top", table(top-1, top, mark(top-1, 1)))
	expectRefused(t, "Lo below 0", table(-1, 0))
	expectRefused(t, "Lo and Hi below 0", table(-1, -1))
	expectRefused(t, "Hi below Lo", table(5, 4))
	expectRefused(t, "Hi below 0", table(0, -1))
	expectRefused(t, "Hi above the top", table(0, top+1))
	expectRefused(t, "Lo above the top", table(top+1, top+1))
	expectRefused(t, "Lo above the top, Hi not", table(top+1, top))
	for _, n := range []int{least, least + 1, greatest - 1, greatest} {
		expectRefused(t, "Lo", table(n, 5))
		expectRefused(t, "Hi", table(5, n))
		expectRefused(t, "Lo and Hi", table(n, n))
	}
	expectRefused(t, "Lo and Hi", table(least, greatest))
	expectRefused(t, "Lo and Hi", table(greatest, least))
}

func TestOrderOfTables(t *testing.T) {
	expectRight(t, "Lo at Hi", table(2, 5), table(5, 6))
	expectRight(t, "Lo above Hi", table(2, 5), table(7, 8))
	expectRefused(t, "Lo below Hi", table(2, 5), table(4, 6))
	expectRefused(t, "the same tables", table(2, 5), table(2, 5))
	expectRefused(t, "the tables fall", table(5, 6), table(2, 5))
	expectRefused(t, "Lo below the Hi of the one ahead", table(0, 1), table(2, 5), table(3, 6))
	expectRefused(t, "Lo below the Hi of an empty one", table(5, 5), table(4, 6))
	expectRight(t, "Lo at the Hi of an empty one", table(5, 5), table(5, 6), table(6, 6))
}

func TestAddressesOfRows(t *testing.T) {
	expectRight(t, "at Lo", table(3, 9, mark(3, 1)))
	expectRefused(t, "below Lo", table(3, 9, mark(2, 1)))
	expectRight(t, "at Hi - 1", table(3, 9, mark(8, 1)))
	expectRefused(t, "at Hi", table(3, 9, mark(9, 1)))
	expectRefused(t, "above Hi", table(3, 9, mark(10, 1)))
	expectRefused(t, "in no addresses", table(3, 3, mark(3, 1)))
	expectRight(t, "rising", table(3, 9, mark(3, 1), mark(4, 1), mark(8, 1)))
	expectRefused(t, "the same address", table(3, 9, mark(5, 1), mark(5, 2)))
	expectRefused(t, "the same address without a statement", table(3, 9, row(5, -1), row(5, -1)))
	expectRefused(t, "falling", table(3, 9, mark(5, 1), mark(4, 1)))
	expectRefused(t, "falling at the end", table(3, 9, mark(4, 1), mark(7, 1), mark(6, 1)))
	expectRefused(t, "in the second table", table(3, 9, mark(4, 1)), table(9, 12, mark(8, 1)))
	for _, n := range []int{least, -1, greatest} {
		expectRefused(t, "an address", table(3, 9, mark(n, 1)))
		expectRefused(t, "an address", table(0, 9, mark(n, 1)))
		expectRefused(t, "a second address", table(3, 9, mark(4, 1), mark(n, 1)))
	}
}

func TestPositionsOfRows(t *testing.T) {
	for _, marked := range []bool{false, true} {
		one := func(ctx, stmt int) api.LineTable {
			return table(0, 9, api.Row{Addr: 2, Ctx: ctx, Stmt: stmt, Mark: marked})
		}
		for _, ctx := range []int{0, 1, 254, 255} {
			expectRight(t, "a context", one(ctx, 0))
			expectRight(t, "a context", one(ctx, 9999))
		}
		for _, ctx := range []int{-1, 256, least, greatest} {
			expectRefused(t, "a context", one(ctx, 0))
			expectRefused(t, "a context", one(ctx, -1))
		}
		for _, stmt := range []int{-2, 10000, least, greatest} {
			expectRefused(t, "a statement", one(0, stmt))
		}
	}
	expectRight(t, "no statement", table(0, 9, row(2, -1)))
	expectRefused(t, "no statement, in a context", table(0, 9, in(1, row(2, -1))))
	expectRefused(t, "no statement, with Mark", table(0, 9, mark(2, -1)))
	expectRefused(t, "no statement, in a context, with Mark", table(0, 9, in(255, mark(2, -1))))
	expectRefused(t, "in the last row", table(0, 9, row(2, 1)), table(9, 12, row(10, 1), mark(11, -1)))
}

func TestOf(t *testing.T) {
	if l := Of(api.Unit{}); len(l) > 0 {
		t.Errorf("P18.1: the tables of nothing are %v", l)
	}
	if l := Of(api.Unit{Words: []int{1, 2}, Code: 1, Funcs: []api.FuncCode{}}); len(l) > 0 {
		t.Errorf("P18.1: the tables of no functions are %v", l)
	}
	rows := []api.Row{in(7, mark(12, 3)), row(14, -1)}
	u := api.Unit{Words: []int{1, 2}, Code: 2, Funcs: []api.FuncCode{
		{Lo: 4, Hi: 9, Steps: []api.Step{{Addr: 4}}},
		{Lo: 9, Hi: 20, Rows: rows, Ranges: []api.Range{{Var: 1}}, Contexts: []api.Context{{Parent: -1}}},
		{},
	}}
	if l := Of(u); !equal(l, tables(table(4, 9), table(9, 20, rows...), table(0, 0))) {
		t.Errorf("P18.1: the tables are %v", l)
	}
}

// Of says nothing about whether tables are right.
func TestOfAnything(t *testing.T) {
	u := api.Unit{Funcs: make([]api.FuncCode, 20)}
	u.Funcs[19] = api.FuncCode{Lo: greatest, Hi: least, Rows: []api.Row{{Addr: least, Ctx: greatest, Stmt: least, Mark: true}, {Addr: least}}}
	l := Of(u)
	if len(l) != 20 || !equalTable(l[19], table(greatest, least, u.Funcs[19].Rows...)) || !equal(l[:19], make([]api.LineTable, 19)) {
		t.Errorf("P18.1: the tables are %v", l)
	}
}
