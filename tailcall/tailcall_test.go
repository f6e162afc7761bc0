package tailcall

import (
	"testing"

	"debugger/api"
	"debugger/passes"
)

func TestRefused(t *testing.T) { passes.ExpectRefused(t, "P14.1", Tail) }

func TestExample(t *testing.T) {
	expectTails(t, lines("(1) call 2(v0) 1()", "(1) at 4; return v0"), lines("(1) tail 2(v0)", "(1) at 4; return v0"))
}

// There may be nothing to do.
func TestUnchanged(t *testing.T) {
	for _, text := range []string{
		"(1) return v0",
		"(1) throw v0",
		"(1) tail 2(v0)",
		lines("(1) jump 1(v0)", "(1) at 4; return v0"),
		lines("(1) branch v0 1(v0) 2(v0)", "(1) return v0", "(1) bind 0 to v0; at 3; return v0"),
		lines("(1) call 0(v0) 1()", "(1) print v0; return v0"),
	} {
		expectKept(t, text)
	}
}

// The numbers of the function and its arguments stay, and all that a tail call does not use is empty: its edges lead nowhere.
func TestTerminator(t *testing.T) {
	for _, from := range []api.Term{
		{Kind: api.TermCall, N: 0, To: [2]api.Edge{{Block: 1}, {Block: -1}}},
		{Kind: api.TermCall, N: 3, Args: []int{2}, To: [2]api.Edge{{Block: 1}, {Block: -1}}},
		{Kind: api.TermCall, N: 7, Args: []int{1, 0, 2, 1}, To: [2]api.Edge{{Block: 1}, {Block: -1}}},
		{Kind: api.TermCall, N: 7, Args: []int{0, 0, 0, 0}, To: [2]api.Edge{{Block: 1, Args: []int{}}, {Block: -1, Args: []int{}}}},
	} {
		c := passes.Parse(t, lines("(2) v2 = 5; mark 1; return v0", "(1) bind 0 to v0; return v0"))
		c.Blocks[0].Term = from
		got := passes.Result(t, "P14.1", Tail, c)
		c.Blocks[0].Term = api.Term{Kind: api.TermTail, N: from.N, Args: from.Args, To: [2]api.Edge{{Block: -1}, {Block: -1}}}
		if !passes.Equal(got, c) {
			t.Errorf("P14.1: %+v becomes %+v", from, got.Blocks[0].Term)
		}
	}
}

// Everything else stays: the function's number and parameters, its contexts and objects, all operations, and the blocks, also those that nothing leads to afterwards.
func TestTheRest(t *testing.T) {
	head := lines("func 3", "context 0 7 1", "context 1 9 2", "object 0 3 4", "object 2 3 2", "object 1 0 8", "")
	first := "(3) v7 = v0 * v1; v3 = 1; v4 = copy v3; store 2 v0 v1; v9999 = load 0 v4; zero 1; print v9999; at 3 in 1; bind 3.2 in 1 to v7 + -4; bind 4.1 to constant + 6; bind 5 in 1 to entry 1 + 8; mark 8 in 1; "
	rest := lines("",
		"(1) bind 0 in 2 to v0 + 3; bind 1.3 to nowhere; bind 1.2 to entry 2; at 9 in 2; bind 2 in 1 to constant + -1; return v0",
		"(1) v1 = v0 + v0; mark 5; jump 1(v1)",
		"(2) at 3; throw v1",
		"(0) zero 1; v0 = 1; branch v0 4() 3(v0 v0)",
		"(1) return v0",
		"(1) call 2(v0) 2() 3(v0)",
		"(0) tail 6()")
	expectTails(t, head+first+"call 5(v9999 v7 v0) 1()"+rest, head+first+"tail 5(v9999 v7 v0)"+rest)
	expectTails(t, head+first+"call 5() 5()"+rest, head+first+"tail 5()"+rest)
	for _, end := range []string{"branch v3 1(v3) 2(v3)", "call 4(v3 v1 v3) 1() 2()", "call 4(v3) 3(v1)", "call 4(v3) 2()", "tail 5(v3 v0)", "return v3", "return v0", "throw v3", "jump 1(v0)"} {
		expectKept(t, head+first+end+rest)
	}
}

// Calls of blocks that are not reached become tail calls as well.
func TestUnreached(t *testing.T) {
	expectTails(t, lines("(1) return v0", "(2) call 0(v1) 2()", "(1) return v0"), lines("(1) return v0", "(2) tail 0(v1)", "(1) return v0"))
}

// Almost every block of the largest code may be a call that leads to the same block, which has all operations.
func TestLargest(t *testing.T) {
	c := passes.Parse(t, lines("(1) call 0(v0) 1()", "(1) return v0"))
	for range api.MaxOps {
		c.Blocks[1].Ops = append(c.Blocks[1].Ops, api.Op{Kind: api.OpAt})
	}
	for n := range api.MaxBlocks - 2 {
		c.Blocks = append(c.Blocks, passes.Parse(t, "(1) call 0(v0) 1()").Blocks[0])
		c.Blocks[n+2].Term.N = n % api.MaxFuncs
	}
	got := passes.Result(t, "P14.1", Tail, c)
	if n := count(api.Module{Funcs: []api.Code{got}}, api.TermTail); n != api.MaxBlocks-1 || len(got.Blocks) != api.MaxBlocks || len(got.Blocks[1].Ops) != api.MaxOps {
		t.Errorf("P14.1: %d tail calls and %d blocks", n, len(got.Blocks))
	}
	c.Blocks[1].Ops[api.MaxOps-1].Kind = api.OpMark
	if got := passes.Result(t, "P14.1", Tail, c); !passes.Equal(got, c) {
		t.Errorf("P14.1: with a Mark behind all Ats, there are tail calls")
	}
}
