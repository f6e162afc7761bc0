package lower

import (
	"fmt"
	"slices"
	"testing"

	"debugger/api"
)

// Functions keep their numbers, and each has one context.
func TestModules(t *testing.T) {
	s := source(t, "func f(a) { return h(a, 1); } func g() { var l: int[4]; g(); } func h(a, b) { return b; }")
	expectFunction(t, "P7.1", s, 0,
		"(1) bind 0 to v0; mark 0; v1 = 1; call 2(v0 v1) 1(v0)",
		"(2) bind 0 to v1; at 0; return v0")
	expectFunction(t, "P7.1", s, 1,
		"func 1",
		"object 0 0 4",
		"(0) mark 2; zero 0; mark 3; call 1() 1()",
		"(1) at 3; mark 4; v1 = 0; return v1")
	expectFunction(t, "P7.1", s, 2, "func 2", "(2) bind 0 to v0; bind 1 to v1; mark 5; return v1")
	m := lowered(t, "P7.1", s)
	for f, params := range []int{1, 0, 2} {
		c := m.Funcs[f]
		if c.Params != params || key(c.Contexts) != key([]api.Context{{Parent: -1, Stmt: -1, Func: f}}) {
			t.Errorf("P7.1: function %d has %d parameters and the contexts %+v", f, c.Params, c.Contexts)
		}
	}
	if len(m.Funcs) != 3 {
		t.Errorf("P7.1: there are %d functions", len(m.Funcs))
	}
}

// Objects are in the order of the variables, those of blocks and of what is not lowered too.
func TestObjects(t *testing.T) {
	s := source(t, "func f(a, b) { var x: int; var l: int[2]; if a { var m: int[8]; } try { var y: int; } catch e { var n: int[1]; } return a; var o: int[3]; }")
	want := []api.Object{{Var: 3, Words: 2}, {Var: 4, Words: 8}, {Var: 7, Words: 1}, {Var: 8, Words: 3}}
	if m := lowered(t, "P7.1", s); key(m.Funcs[0].Objects) != key(want) {
		t.Errorf("P7.1: the objects are %+v, not %+v", m.Funcs[0].Objects, want)
	}
}

func TestNoFunctions(t *testing.T) {
	for _, program := range []string{"", "record R { p }"} {
		if m, e := Lower(source(t, program)); e != api.OK || len(m.Funcs) > 0 {
			t.Errorf("P7.1: Lower without functions = %+v, %d", m, e)
		}
	}
	if m, e := Lower(api.Source{}); e != api.OK || len(m.Funcs) > 0 {
		t.Errorf("P7.1: Lower of an empty source = %+v, %d", m, e)
	}
}

// Block 0 begins with a Bind for each parameter, also where nothing uses it or a loop comes first.
func TestParameters(t *testing.T) {
	binds := []string{"", "bind 0 to v0; ", "bind 0 to v0; bind 1 to v1; ", "bind 0 to v0; bind 1 to v1; bind 2 to v2; ", "bind 0 to v0; bind 1 to v1; bind 2 to v2; bind 3 to v3; "}
	values := []string{"", "v0", "v0 v1", "v0 v1 v2", "v0 v1 v2 v3"}
	for n, names := range []string{"", "a", "a, b", "a, b, c", "a, b, c, d"} {
		expectCode(t, "P7.2", "func f("+names+") { }", fmt.Sprintf("(%d) %smark 0; v%d = 0; return v%d", n, binds[n], n, n))
		expectCode(t, "P7.2", "func f("+names+") { while 1 { } }",
			fmt.Sprintf("(%d) %sjump 1(%s)", n, binds[n], values[n]),
			fmt.Sprintf("(%d) %smark 0; v%d = 1; branch v%d 2(%s) 3(%s)", n, binds[n], n, n, values[n], values[n]),
			fmt.Sprintf("(%d) %sjump 1(%s)", n, binds[n], values[n]),
			fmt.Sprintf("(%d) %smark 1; v%d = 0; return v%d", n, binds[n], n, n))
	}
}

// A block begins with the pieces of the variables that are in scope, and of no others.
func TestScopes(t *testing.T) {
	expectCode(t, "P7.2", "func f(a) { if a { var x: int; f(x); var y: int; } f(a); var z: int; f(z); }",
		"(1) bind 0 to v0; mark 0; branch v0 1(v0) 2(v0)",
		"(1) bind 0 to v0; mark 1; v1 = 0; bind 1 to v1; mark 2; call 0(v1) 3(v0 v1)",
		"(1) bind 0 to v0; mark 4; call 0(v0) 4(v0)",
		"(3) bind 0 to v1; bind 1 to v2; at 2; mark 3; v3 = 0; bind 2 to v3; jump 2(v1)",
		"(2) bind 0 to v1; at 4; mark 5; v2 = 0; bind 3 to v2; mark 6; call 0(v2) 5(v1 v2)",
		"(3) bind 0 to v1; bind 3 to v2; at 6; mark 7; v3 = 0; return v3")
	// Arrays are no pieces.
	expectCode(t, "P7.2", "record R { p, q } func f() { var l: int[3]; var r: R; var m: int[2]; var x: int; x = f(); }",
		"object 0 0 3",
		"object 0 2 2",
		"(0) mark 0; zero 0; mark 1; v0 = 0; bind 1 to v0; v1 = 0; bind 1.1 to v1; mark 2; zero 1; mark 3; v2 = 0; bind 3 to v2; mark 4; call 0() 1(v0 v1 v2)",
		"(4) bind 1 to v1; bind 1.1 to v2; bind 3 to v3; at 4; bind 3 to v0; mark 5; v4 = 0; return v4")
}

// Each piece has a value of its own: no two pieces are ever bound to the same value of a block.
func TestPiecesHaveValuesOfTheirOwn(t *testing.T) {
	for _, program := range manyPrograms(t, 300) {
		for _, c := range lowered(t, "S7", program).Funcs {
			for b, block := range c.Blocks {
				owners := map[int]piece{}
				for _, o := range block.Ops {
					p := piece{o.Var, o.Piece}
					if o.Kind != api.OpBind {
						continue
					}
					if owner, ok := owners[o.Src.Val]; ok && owner != p {
						t.Fatalf("S7: in block %d of\n%s\nvalue %d belongs to %+v and %+v", b, text(api.Module{Funcs: []api.Code{c}}), o.Src.Val, owner, p)
					}
					owners[o.Src.Val] = p
				}
			}
		}
	}
}

// Values are numbered upward from Params in the order of the operations, and all blocks but the first one have an edge.
func TestNumbers(t *testing.T) {
	for _, program := range manyPrograms(t, 300) {
		for _, c := range lowered(t, "P7.1", program).Funcs {
			led := []int{0}
			for b, block := range c.Blocks {
				next := block.Params
				for _, o := range block.Ops {
					if o.Kind > api.OpLoad {
						continue
					}
					if o.Dst != next {
						t.Fatalf("P7.1: block %d of\n%s\ndefines value %d, not %d", b, text(api.Module{Funcs: []api.Code{c}}), o.Dst, next)
					}
					next++
				}
				led = append(led, block.Term.To[0].Block, block.Term.To[1].Block)
			}
			slices.Sort(led)
			led = slices.DeleteFunc(slices.Compact(led), func(b int) bool { return b < 0 })
			if len(led) != len(c.Blocks) {
				t.Fatalf("P7.2: edges lead to %d of %d blocks", len(led), len(c.Blocks))
			}
		}
	}
}
