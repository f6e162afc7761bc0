package fold

import (
	"fmt"
	"strings"
	"testing"

	"debugger/api"
	"debugger/ir"
	"debugger/notation"
)

const (
	least    = -1 << 63
	greatest = 1<<63 - 1
)

// key returns a text that two values have in common only if they are the same; nil and empty slices are.
func key(v any) string { return fmt.Sprintf("%+v", v) }

// code returns the code of a text of package notation.
func code(t *testing.T, text string) api.Code {
	t.Helper()
	c, ok := notation.Parse(text)
	if !ok {
		t.Fatalf("%.400q is no code", text)
	}
	return c
}

// folded returns what Fold makes of a sound code, and checks that it is sound as well and that the argument stays as it is.
func folded(t *testing.T, promise string, c api.Code) api.Code {
	t.Helper()
	if e := ir.CheckCode(c); e != api.OK {
		t.Fatalf("%s: %.400s is refused: %d", promise, notation.Print(c), e)
	}
	before := key(c)
	got := Fold(c)
	if key(c) != before {
		t.Fatalf("%s: Fold changes its argument %.400s", promise, before)
	}
	if e := ir.CheckCode(got); e != api.OK {
		t.Errorf("%s: %.400s becomes\n%.400s\nwhich is refused: %d", promise, notation.Print(c), notation.Print(got), e)
	}
	return got
}

// expectCode checks what becomes of a code, both as texts of package notation with a line for each block.
func expectCode(t *testing.T, promise, from, want string) {
	t.Helper()
	got := folded(t, promise, code(t, from))
	if key(got) != key(code(t, want)) {
		t.Errorf("%s:\n%s\nbecomes\n%snot\n%s\n(%+v)", promise, from, notation.Print(got), want, got)
	}
}

// head is ahead of the operations that expectOps gives to a code; it has two parameters, an object and a second context.
const head = "context 0 3 0\nobject 0 5 4\n(2) "

// expectOps checks what becomes of the operations of a block with two parameters that returns the first one.
func expectOps(t *testing.T, promise, from, want string) {
	t.Helper()
	expectCode(t, promise, head+from+"; return v0", head+want+"; return v0")
}

// lines returns texts with a line for each.
func lines(texts ...string) string { return strings.Join(texts, "\n") }
