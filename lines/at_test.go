package lines

import (
	"testing"

	"debugger/api"
)

func TestAt(t *testing.T) {
	rows := []api.Row{mark(4, 1), in(2, mark(6, 3)), row(9, -1), row(11, 3)}
	l := table(4, 13, rows...)
	for addr, n := range []int{4: 0, 5: 0, 6: 1, 7: 1, 8: 1, 9: 2, 10: 2, 11: 3, 12: 3} {
		if addr >= 4 {
			expectAt(t, l, addr, rows[n])
		}
	}
	for _, addr := range []int{3, 2, 0, -1, 13, 14, 1 << 20, 1 << 40, least, least + 1, greatest - 1, greatest} {
		expectNone(t, l, addr)
	}
}

func TestAtWithoutRows(t *testing.T) {
	for _, l := range []api.LineTable{{}, table(3, 3), table(3, 8), {Lo: 3, Hi: 8, Rows: []api.Row{}}, table(least, greatest)} {
		for _, addr := range []int{least, -1, 0, 3, 5, 8, greatest - 1, greatest} {
			expectNone(t, l, addr)
		}
	}
}

func TestAheadOfTheFirstRow(t *testing.T) {
	l := table(4, 9, mark(7, 2))
	for addr := range 12 {
		if addr == 7 || addr == 8 {
			expectAt(t, l, addr, mark(7, 2))
		} else {
			expectNone(t, l, addr)
		}
	}
}

// The last row that lies at an address or below is the last one of the list.
func TestRowsThatFall(t *testing.T) {
	l := table(0, 20, mark(3, 1), mark(9, 2), mark(5, 3), mark(12, 4), mark(12, 5), mark(10, 6))
	expectNone(t, l, 2)
	expectAt(t, l, 3, mark(3, 1))
	expectAt(t, l, 4, mark(3, 1))
	for addr := 5; addr <= 9; addr++ {
		expectAt(t, l, addr, mark(5, 3))
	}
	expectAt(t, l, 10, mark(10, 6))
	expectAt(t, l, 19, mark(10, 6))
	expectAt(t, table(0, 20, mark(12, 4), mark(12, 5)), 12, mark(12, 5))
	expectAt(t, table(0, 20, mark(12, 4), mark(13, 5), mark(7, 5), mark(15, 6)), 14, mark(7, 5))
}

func TestRowsOutside(t *testing.T) {
	low, high := mark(2, 70000), in(-5, mark(30, 2))
	l := table(4, 9, low, high)
	for addr := 4; addr < 9; addr++ {
		expectAt(t, l, addr, low)
	}
	expectNone(t, l, 2)
	expectNone(t, l, 3)
	expectNone(t, l, 9)
	expectNone(t, l, 30)
	expectNone(t, table(4, 9, high), 8)
	expectAt(t, table(4, 9, mark(least, 1), mark(greatest, 2)), 4, mark(least, 1))
	expectAt(t, table(4, 9, mark(greatest, 2), mark(least, 1)), 4, mark(least, 1))
}

func TestAtTheBounds(t *testing.T) {
	all := table(least, greatest, mark(least, 1), mark(0, 2), mark(greatest-1, 3), mark(greatest, 4))
	expectAt(t, all, least, mark(least, 1))
	expectAt(t, all, -1, mark(least, 1))
	expectAt(t, all, 0, mark(0, 2))
	expectAt(t, all, greatest-2, mark(0, 2))
	expectAt(t, all, greatest-1, mark(greatest-1, 3))
	expectNone(t, all, greatest)
	rows := []api.Row{mark(least, 1)}
	for _, l := range []api.LineTable{table(9, 4, rows...), table(0, least, rows...), table(least, least, rows...), table(greatest, greatest, rows...), table(greatest, least, rows...)} {
		for _, addr := range []int{least, least + 1, -1, 0, 4, 5, 8, 9, greatest - 1, greatest} {
			expectNone(t, l, addr)
		}
	}
	expectAt(t, table(least, least+1, rows...), least, rows[0])
	expectNone(t, table(least, least+1, rows...), least+1)
	expectAt(t, table(greatest-1, greatest, rows...), greatest-1, rows[0])
}
