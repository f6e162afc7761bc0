package lines

import (
	"testing"

	"debugger/api"
)

// A row with Mark has one operation if the address and the statement change by little.
func TestShortOperations(t *testing.T) {
	for rise := range 30 {
		for change := -2; change <= 5; change++ {
			op := byte(16 + rise*8 + change + 2)
			if rise > 0 {
				expectEncoded(t, "a second row", tables(table(3, 90, row(3, 4), mark(3+rise, 4+change))), section(1, head(3, 90), statement(5), ops(4, op, 0)))
			}
			if change > 0 {
				expectEncoded(t, "a first row", tables(table(3, 90, mark(3+rise, change-1))), section(1, head(3, 90), ops(op, 0)))
			}
		}
	}
	expectEncoded(t, "the greatest short operation", tables(table(3, 90, mark(32, 4))), []byte{1, 3, 90, 255, 0})
}

func TestRises(t *testing.T) {
	from := func(lo, rise int, marked bool) []api.LineTable {
		return tables(table(lo, 1<<20, api.Row{Addr: lo + rise, Stmt: 4, Mark: marked}))
	}
	begin := section(1, head(7, 1<<20))
	expectEncoded(t, "0", from(7, 0, true), append(begin, 23, 0))
	expectEncoded(t, "1", from(7, 1, true), append(begin, 31, 0))
	expectEncoded(t, "29", from(7, 29, true), append(begin, 255, 0))
	expectEncoded(t, "30", from(7, 30, true), append(begin, 1, 30, 3, 10, 5, 0))
	expectEncoded(t, "0 without Mark", from(7, 0, false), append(begin, 3, 10, 4, 0))
	expectEncoded(t, "1 without Mark", from(7, 1, false), append(begin, 1, 1, 3, 10, 4, 0))
	expectEncoded(t, "29 without Mark", from(7, 29, false), append(begin, 1, 29, 3, 10, 4, 0))
	expectEncoded(t, "30 without Mark", from(7, 30, false), append(begin, 1, 30, 3, 10, 4, 0))
	expectEncoded(t, "127", from(7, 127, true), append(begin, 1, 127, 3, 10, 5, 0))
	expectEncoded(t, "128", from(7, 128, true), append(begin, 1, 128, 1, 3, 10, 5, 0))
	expectEncoded(t, "the greatest rise", from(0, 1<<20-1, false), []byte{1, 0, 128, 128, 64, 1, 255, 255, 63, 3, 10, 4, 0})
}

func TestChanges(t *testing.T) {
	behind := func(change int, marked bool) []api.LineTable {
		return tables(table(0, 9, mark(1, 4), api.Row{Addr: 2, Stmt: 4 + change, Mark: marked}))
	}
	begin := []byte{1, 0, 9, 31}
	expectEncoded(t, "-3", behind(-3, true), append(begin, 1, 1, 3, 5, 5, 0))
	expectEncoded(t, "-2", behind(-2, true), append(begin, 24, 0))
	expectEncoded(t, "0", behind(0, true), append(begin, 26, 0))
	expectEncoded(t, "5", behind(5, true), append(begin, 31, 0))
	expectEncoded(t, "6", behind(6, true), append(begin, 1, 1, 3, 12, 5, 0))
	expectEncoded(t, "-3 without Mark", behind(-3, false), append(begin, 1, 1, 3, 5, 4, 0))
	expectEncoded(t, "-2 without Mark", behind(-2, false), append(begin, 1, 1, 3, 3, 4, 0))
	expectEncoded(t, "0 without Mark", behind(0, false), append(begin, 1, 1, 4, 0))
	expectEncoded(t, "5 without Mark", behind(5, false), append(begin, 1, 1, 3, 10, 4, 0))
	expectEncoded(t, "6 without Mark", behind(6, false), append(begin, 1, 1, 3, 12, 4, 0))
	expectEncoded(t, "to no statement", behind(-5, false), append(begin, 1, 1, 3, 9, 4, 0))
	expectEncoded(t, "the greatest change", tables(table(0, 9, mark(0, 9999), row(1, -1), mark(2, 9999))),
		[]byte{1, 0, 9, 3, 160, 156, 1, 5, 1, 1, 3, 159, 156, 1, 4, 1, 1, 3, 160, 156, 1, 5, 0})
}

// Each program begins in a state of its own.
func TestFirstRows(t *testing.T) {
	expectEncoded(t, "the state at the beginning", tables(table(3, 9, row(3, -1))), []byte{1, 3, 9, 4, 0})
	expectEncoded(t, "behind Lo", tables(table(3, 9, row(4, -1))), []byte{1, 3, 9, 1, 1, 4, 0})
	expectEncoded(t, "two tables", tables(table(3, 9, in(2, mark(5, 7))), table(9, 12, row(9, -1), mark(10, 0))),
		[]byte{2, 3, 9, 2, 2, 1, 2, 3, 16, 5, 0, 9, 12, 4, 27, 0})
	expectEncoded(t, "no tables", nil, []byte{0})
	expectEncoded(t, "tables without rows", tables(table(3, 9), table(300, 300)), []byte{2, 3, 9, 0, 172, 2, 172, 2, 0})
}

func TestContexts(t *testing.T) {
	l := tables(table(0, 20, mark(0, 1), in(3, mark(1, 2)), in(3, mark(2, 3)), in(0, mark(3, 3)), in(255, row(4, 3)), in(200, mark(6, 30)), row(7, -1)))
	expectEncoded(t, "contexts", l, section(1, head(0, 20), ops(20, 2, 3, 27, 27, 2, 0, 26),
		ops(2, 255, 1, 1, 1, 4), ops(2, 200, 1, 1, 2, 3, 54, 5), ops(2, 0, 1, 1, 3, 61, 4, 0)))
}

// wide returns a table whose program has so many rows with 11 bytes, and so many with 1 byte behind them: 6 bytes and those of the rows, behind the number of tables, as Hi has 3 bytes.
func wide(long, short int) api.LineTable {
	l := table(0, 1<<20)
	for n := range long {
		r := api.Row{Addr: 128 * (n + 1), Ctx: 128 + n%2, Stmt: 9999 * ((n + 1) % 2)}
		l.Rows = append(l.Rows, r)
	}
	last := l.Rows[long-1]
	for n := range short {
		l.Rows = append(l.Rows, in(last.Ctx, mark(last.Addr+1+n, last.Stmt)))
	}
	return l
}

func TestNumberOfBytes(t *testing.T) {
	long := (api.MaxBytes - 6) / 11
	short := (api.MaxBytes - 6) % 11
	fits, larger := tables(wide(long, short)), tables(wide(long, short+1))
	if b := Encode(fits); len(b) != api.MaxBytes {
		t.Errorf("P18.3: there are %d bytes, not %d", len(b), api.MaxBytes)
	}
	expectRight(t, "the most bytes", fits...)
	if b := Encode(larger); len(b) > 0 || !Right(larger) {
		t.Errorf("P18.3: there are %d bytes, or the tables are not right", len(b))
	}
	many := tables(wide(8000, 0))
	if b := Encode(many); len(b) > 0 || !Right(many) {
		t.Errorf("P18.3: there are %d bytes, or the tables are not right", len(b))
	}
	again := append(fits, table(1<<20, 1<<20))
	if b := Encode(again); len(b) > 0 || !Right(again) {
		t.Errorf("P18.3: there are %d bytes, or the tables are not right", len(b))
	}
}
