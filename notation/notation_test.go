package notation

import (
	"fmt"
	"testing"

	"debugger/api"
)

func TestParse(t *testing.T) {
	c, ok := Parse("(1) v1 = 2; v2 = v0 * v1; bind 3.1 to v2 + 4; mark 5; branch v2 1() 1()\n(0) v0 = 6; call 2(v0) 3(v0)\n")
	want := api.Code{Params: 1, Contexts: []api.Context{{Parent: -1, Stmt: -1}}, Blocks: []api.Block{
		{Params: 1, Ops: []api.Op{
			{Kind: api.OpConst, Dst: 1, N: 2},
			{Kind: api.OpMul, Dst: 2, A: 0, B: 1},
			{Kind: api.OpBind, Var: 3, Piece: 1, Src: api.Src{Kind: api.SrcValue, Val: 2, Add: 4}},
			{Kind: api.OpMark, N: 5},
		}, Term: api.Term{Kind: api.TermBranch, A: 2, To: [2]api.Edge{{Block: 1}, {Block: 1}}}},
		{Ops: []api.Op{{Kind: api.OpConst, N: 6}},
			Term: api.Term{Kind: api.TermCall, N: 2, Args: []int{0}, To: [2]api.Edge{{Block: 3, Args: []int{0}}, {Block: -1}}}},
	}}
	if !ok || fmt.Sprint(c) != fmt.Sprint(want) {
		t.Errorf("the code is %+v, %v", c, ok)
	}
	for _, bad := range []string{"x", "func", "func x", "func 1 2", "context 1 2", "object 1 2 3 4", "(1)", "(x) return v0", "() return v0", "(0) return 0", "(0) v1 = ; return v1",
		"(0) v1 = v2 v3; return v1", "(0) v1 + 2; return v1", "(0) jump 1", "(0) jump 1(v0", "(0) jump 1(0)", "(0) bind 1 v2; return v0", "(0) bind 1 to x; return v0", "(0) return v0;", "(0) return v0 v1"} {
		if c, ok := Parse(bad); ok {
			t.Errorf("%q is %+v", bad, c)
		}
	}
}

func TestPrint(t *testing.T) {
	for _, text := range []string{
		"func 2\ncontext 0 7 1\nobject 1 3 4\n(0) return v0\n",
		"(2) v2 = 7; v3 = -8; v4 = copy v1; v5 = v0 <= v1; v6 = load 0 v1; store 0 v1 v2; zero 0; print v1; jump 1(v0 v2)\n",
		"(0) mark 3; at 3 in 1; mark 4 in 1; branch v0 1() 2(v0)\n",
		"(1) bind 0 to nowhere; bind 1 to constant + 7; bind 2 in 1 to v2; bind 3.2 in 1 to v2 + -1; bind 4.1 to entry 1 + 2; bind 5 to entry 0; call 3(v0 v1) 1()\n",
		"(1) v1 = v0 + v0; v2 = v0 - v0; v3 = v0 * v0; v4 = v0 / v0; v5 = v0 % v0; v6 = v0 & v0; v7 = v0 | v0; v8 = v0 ^ v0; throw v0\n",
		"(1) v1 = v0 < v0; v2 = v0 <= v0; v3 = v0 == v0; v4 = v0 != v0; tail 2(v0 v1)\n(3) call 3() 1(v1) 2(v2)\n",
	} {
		if c, ok := Parse(text); !ok || Print(c) != text {
			t.Errorf("%q is printed as %q", text, Print(c))
		}
	}
}
