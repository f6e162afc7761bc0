package fold

import (
	"strings"
	"testing"

	"debugger/passes"
)

const (
	least    = -1 << 63
	greatest = 1<<63 - 1
)

// expectCode checks what becomes of a code, both as texts of package notation with a line for each block.
func expectCode(t *testing.T, promise, from, want string) {
	t.Helper()
	passes.Expect(t, promise, Fold, from, want)
}

// head is ahead of the operations that expectOps gives to a code; it has two parameters, an object and a second context.
const head = "context 0 3 0\nobject 0 5 4\n(2) "

// expectOps checks what becomes of the operations of a block with two parameters that returns the first one.
func expectOps(t *testing.T, promise, from, want string) {
	t.Helper()
	expectCode(t, promise, head+from+"; return v0", head+want+"; return v0")
}

// lines returns texts with a line for each.
func lines(texts ...string) string { return strings.Join(texts, "\n") }
