package lines

import "debugger/api"

// The operations of a program.
const (
	opEnd       = iota // the program ends
	opAddress          // uint n: the address is n higher
	opContext          // uint n: the context is n
	opStatement        // int n: the statement is n higher
	opRow              // a row of the state
	opMark             // the same with Mark
	opShort     = 16   // and all above it: the address and the statement are higher by what the operation says; a row of the state, with Mark
)

// A short operation has a rise of the address, and a change of the statement.
const (
	mostRise    = (255 - opShort) / changes
	changes     = 8
	leastChange = -2
)

// initial returns the state at the beginning of a program, as a row of it.
func initial(lo int) api.Row { return api.Row{Addr: lo, Stmt: -1} }

// short returns the short operation for a rise and a change, and whether there is one.
func short(rise, change int) (int, bool) {
	if rise > mostRise || change < leastChange || change >= leastChange+changes {
		return 0, false
	}
	return opShort + rise*changes + change - leastChange, true
}

// long returns the rise and the change of a short operation.
func long(op int) (int, int) {
	return (op - opShort) / changes, (op-opShort)%changes + leastChange
}
