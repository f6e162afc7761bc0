package dead

import (
	"strings"
	"testing"

	"debugger/passes"
)

const (
	least    = -1 << 63
	greatest = 1<<63 - 1
)

// expectDead checks what becomes of a code, both as texts of package notation, and that this stays as it is.
func expectDead(t *testing.T, promise, from, want string) {
	t.Helper()
	passes.Expect(t, promise, Dead, from, want)
	passes.Expect(t, promise, Dead, want, want)
}

// expectKept checks that nothing is removed or changed.
func expectKept(t *testing.T, promise, text string) {
	t.Helper()
	passes.Expect(t, promise, Dead, text, text)
}

// lines returns texts with a line for each.
func lines(texts ...string) string { return strings.Join(texts, "\n") }
