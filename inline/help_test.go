package inline

import (
	"strconv"
	"strings"
	"testing"

	"debugger/api"
	"debugger/passes"
)

// next is a leaf that returns the number behind its parameter.
const next = "(1) v1 = 1; v2 = v0 + v1; return v2"

// lines returns texts with a line for each.
func lines(texts ...string) string { return strings.Join(texts, "\n") }

// expectInlined checks what becomes of the first function of a module, as a text of package notation; the other functions stay.
func expectInlined(t *testing.T, promise string, want string, from ...string) {
	t.Helper()
	passes.ExpectModule(t, promise, Inline, from, append([]string{want}, from[1:]...))
	if m := passes.ParseModule(t, from...); !passes.EqualModules(reckon(m), Inline(m)) {
		t.Errorf("%s: the second implementation makes\n%s", promise, passes.PrintModule(reckon(m)))
	}
}

// expectKept checks that no call of a module is replaced.
func expectKept(t *testing.T, promise string, from ...string) {
	t.Helper()
	passes.ExpectModule(t, promise, Inline, from, from)
}

// expectCalls checks which of the calls of the first function of a module, which end its first blocks, are replaced.
func expectCalls(t *testing.T, promise, about string, m api.Module, want ...bool) {
	t.Helper()
	got := passes.AppliedModule(t, promise+": "+about, Inline, reckon, m)
	for i, replaced := range want {
		if m.Funcs[0].Blocks[i].Term.Kind != api.TermCall {
			t.Fatalf("%s: %s: the block %d has no call", promise, about, i)
		}
		if is := got.Funcs[0].Blocks[i].Term.Kind == api.TermJump; is != replaced {
			t.Errorf("%s: %s: that the call %d is replaced is %t", promise, about, i, is)
		}
	}
}

// caller returns a function without parameters that calls some functions, also without parameters, one after the other.
func caller(list ...int) string {
	texts := []string{}
	for i, f := range list {
		texts = append(texts, "("+strconv.Itoa(min(i, 1))+") mark "+strconv.Itoa(i)+"; call "+strconv.Itoa(f)+"() "+strconv.Itoa(i+1)+"()")
	}
	return lines(append(texts, "(1) return v0")...)
}

// chain returns a function without parameters of so many blocks, each of which but the last one jumps to the next one.
func chain(blocks int) string {
	texts := []string{}
	for i := range blocks - 1 {
		texts = append(texts, "(0) jump "+strconv.Itoa(i+1)+"()")
	}
	return lines(append(texts, "(0) v0 = 1; return v0")...)
}

// long returns a function without parameters of one block with so many operations.
func long(ops int) string {
	return "(0) " + strings.Repeat("mark 1; ", ops-1) + "v0 = 1; return v0"
}
