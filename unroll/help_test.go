package unroll

import (
	"fmt"
	"strings"
	"testing"

	"debugger/passes"
)

// expectTurned checks what becomes of a code, both as texts of package notation, by P12.2.
func expectTurned(t *testing.T, from, want string) {
	t.Helper()
	passes.Expect(t, "P12.2", Unroll, from, want)
}

// expectUnrolled checks what becomes of a code by P12.3.
func expectUnrolled(t *testing.T, from, want string) {
	t.Helper()
	passes.Expect(t, "P12.3", Unroll, from, want)
}

// expectKept checks that a code stays as it is.
func expectKept(t *testing.T, promise, text string) {
	t.Helper()
	passes.Expect(t, promise, Unroll, text, text)
}

// lines returns texts with a line for each.
func lines(texts ...string) string { return strings.Join(texts, "\n") }

// ops returns so many operations as a text; they define no values.
func ops(count int) string { return strings.Repeat("mark 1; ", count) }

// constants returns so many constants, numbered from one on, as a text.
func constants(from, count int) string {
	text := ""
	for v := range count {
		text += fmt.Sprintf("v%d = %d; ", from+v, v)
	}
	return text
}
