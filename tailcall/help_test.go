package tailcall

import (
	"strings"
	"testing"

	"debugger/api"
	"debugger/passes"
)

// expectTails checks what becomes of a code, both as texts of package notation, and that this stays as it is.
func expectTails(t *testing.T, from, want string) {
	t.Helper()
	passes.Expect(t, "P14.1", Tail, from, want)
	passes.Expect(t, "P14.1", Tail, want, want)
}

// expectKept checks that a code stays as it is.
func expectKept(t *testing.T, text string) {
	t.Helper()
	passes.Expect(t, "P14.1", Tail, text, text)
}

// lines returns texts with a line for each.
func lines(texts ...string) string { return strings.Join(texts, "\n") }

// count returns how many terminators of a kind a module has.
func count(m api.Module, kind int) int {
	n := 0
	for _, c := range m.Funcs {
		for _, b := range c.Blocks {
			if b.Term.Kind == kind {
				n++
			}
		}
	}
	return n
}
