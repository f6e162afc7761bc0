package inline

import (
	"testing"

	"debugger/api"
	"debugger/checker"
	"debugger/lower"
	"debugger/parser"
	"debugger/passes"
)

const program = `
record P { x, y }
func main(n) {
	var s: int;
	var p: P;
	p.x = n;
	while n {
		s = sum(n, p.y);
		p.y = s;
		print p.y;
		n = n - 1;
	}
	try {
		s = least(p.x);
		s = least(s - 9);
		print 99;
	} catch e {
		s = s - e;
	}
	try { outer(s); } catch e { print e; }
	return sum(s, p.x);
}
func sum(a, b) {
	var t: int[3];
	t[a] = t[a] + a + b;
	return t[0] * 100 + t[a];
}
func least(a) {
	if a < 1 { throw a - 5; }
	while a { a = a / 2; }
	return a + 3;
}
func outer(a) {
	var x: int;
	x = sum(a, a);
	least(0);
	return x;
}
`

// In a program with arrays, thrown values and loops all calls of leaves are replaced, and everything is shown as it was.
func TestProgram(t *testing.T) {
	p, line, _ := parser.Parse(program)
	s, other, e := checker.Check(p)
	m, wrong := lower.Lower(s)
	if line+other != 0 || e != api.OK || wrong != api.OK {
		t.Fatalf("the program is refused in line %d", line+other)
	}
	got := passes.AppliedModule(t, "P11.1", Inline, reckon, m)
	if n, k := len(got.Funcs[0].Contexts), len(got.Funcs[3].Contexts); n != 5 || k != 3 {
		t.Errorf("P11.1: %d and %d contexts", n, k)
	}
	for f := range m.Funcs {
		for _, a := range []int{0, 1, 2, 3, 7, -4} {
			args := []int{a, 5}[:m.Funcs[f].Params]
			passes.ExpectInterpreted(t, s, got, f, args, 200)
			passes.ExpectSame(t, s, m, got, f, args, 1000)
		}
	}
}
