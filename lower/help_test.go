package lower

import (
	"fmt"
	"strings"
	"testing"

	"debugger/api"
	"debugger/checker"
	"debugger/ir"
	"debugger/notation"
	"debugger/parser"
)

const (
	least    = -1 << 63
	greatest = 1<<63 - 1
)

// key returns a text that two values have in common only if they are the same; nil and empty slices are.
func key(v any) string { return fmt.Sprintf("%+v", v) }

// source returns the checked program of a text.
func source(t *testing.T, text string) api.Source {
	t.Helper()
	p, line, e := parser.Parse(text)
	if e != api.OK {
		t.Fatalf("%.300q is no program: error %d in line %d", text, e, line)
	}
	return checked(t, p)
}

func checked(t *testing.T, p api.Program) api.Source {
	t.Helper()
	s, line, e := checker.Check(p)
	if e != api.OK {
		t.Fatalf("%.300s is refused: error %d in line %d", key(p), e, line)
	}
	return s
}

// lowered returns the module of a source, which has to be sound.
func lowered(t *testing.T, promise string, s api.Source) api.Module {
	t.Helper()
	m, e := Lower(s)
	if e != api.OK {
		t.Fatalf("%s: the error of %.300s is %d", promise, parser.Print(s.Program), e)
	}
	if e := ir.Check(m); e != api.OK {
		t.Errorf("%s: ir.Check of\n%s\nis %d", promise, text(m), e)
	}
	return m
}

// text returns a module as a text.
func text(m api.Module) string {
	list := []string{}
	for _, c := range m.Funcs {
		list = append(list, notation.Print(c))
	}
	return strings.Join(list, "--\n")
}

// expectCode checks the code of the first function of a program, whose lines are those of package notation.
func expectCode(t *testing.T, promise, program string, want ...string) {
	t.Helper()
	expectFunction(t, promise, source(t, program), 0, want...)
}

// expectFunction checks the code of a function.
func expectFunction(t *testing.T, promise string, s api.Source, f int, want ...string) {
	t.Helper()
	m := lowered(t, promise, s)
	c, ok := notation.Parse(strings.Join(want, "\n"))
	if !ok {
		t.Fatalf("%q is no code", want)
	}
	if key(m.Funcs[f]) == key(c) {
		return
	}
	got, expected := strings.Split(notation.Print(m.Funcs[f]), "\n"), strings.Split(notation.Print(c), "\n")
	t.Errorf("%s: the code of function %d of %q is wrong", promise, f, parser.Print(s.Program))
	for i := range max(len(got), len(expected)) {
		if line(got, i) != line(expected, i) {
			t.Errorf("line %d is\n%s\nnot\n%s", i, line(got, i), line(expected, i))
		}
	}
}

// line returns a line of a text, or "" behind its end.
func line(lines []string, i int) string {
	if i < len(lines) {
		return lines[i]
	}
	return ""
}

// expectError checks that a source is refused.
func expectError(t *testing.T, promise, about string, s api.Source, want api.Errno) {
	t.Helper()
	m, e := Lower(s)
	if e != want || key(m) != key(api.Module{}) {
		t.Errorf("%s: %s: %d functions and the error %d, not %d", promise, about, len(m.Funcs), e, want)
	}
}
