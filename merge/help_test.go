package merge

import (
	"strings"
	"testing"

	"debugger/passes"
)

// expectMerged checks what becomes of a code, both as texts of package notation, and that this stays as it is.
func expectMerged(t *testing.T, from, want string) {
	t.Helper()
	passes.Expect(t, "P9.1", Merge, from, want)
	passes.Expect(t, "P9.1", Merge, want, want)
}

// expectKept checks that nothing is joined.
func expectKept(t *testing.T, text string) {
	t.Helper()
	passes.Expect(t, "P9.1", Merge, text, text)
}

// lines returns texts with a line for each.
func lines(texts ...string) string { return strings.Join(texts, "\n") }
