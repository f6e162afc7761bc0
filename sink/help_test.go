package sink

import (
	"strings"
	"testing"

	"debugger/passes"
)

// expectSunk checks what becomes of a code, both as texts of package notation.
func expectSunk(t *testing.T, from, want string) {
	t.Helper()
	passes.Expect(t, "P13.1", Sink, from, want)
}

// expectKept checks that a code stays as it is.
func expectKept(t *testing.T, text string) {
	t.Helper()
	expectSunk(t, text, text)
}

// lines returns texts with a line for each.
func lines(texts ...string) string { return strings.Join(texts, "\n") }

// signs are the operators of the operations from OpAdd to OpNotEqual.
var signs = strings.Fields("+ - * / % & | ^ < <= == !=")
