package inline

import (
	"testing"

	"debugger/api"
	"debugger/duplicate"
	"debugger/operation"
	"debugger/passes"
)

// fill adds what is never reached to the first function of a module, until it has so many blocks, operations, contexts and objects.
func fill(m api.Module, blocks, ops, contexts, objects int) api.Module {
	m = duplicate.Module(m)
	c := &m.Funcs[0]
	end := api.Term{Kind: api.TermReturn, To: [2]api.Edge{{Block: -1}, {Block: -1}}}
	for len(c.Blocks) < blocks {
		c.Blocks = append(c.Blocks, api.Block{Params: 1, Term: end})
	}
	for len(c.Contexts) < contexts {
		c.Contexts = append(c.Contexts, api.Context{})
	}
	for v := 0; len(c.Objects) < objects; v++ {
		c.Objects = append(c.Objects, api.Object{Ctx: v / api.MaxVars, Var: v % api.MaxVars, Words: 1})
	}
	last := &c.Blocks[len(c.Blocks)-1]
	for range ops - operation.Count(*c) {
		last.Ops = append(last.Ops, api.Op{Kind: api.OpBind})
	}
	return m
}

// The number of blocks counts as it is behind the calls that are replaced until then.
func TestBlocks(t *testing.T) {
	m := passes.ParseModule(t, caller(1, 2, 1), chain(12), chain(5))
	expectCalls(t, "P11.1", "few blocks", m, true, true, true)
	expectCalls(t, "P11.1", "400 blocks", fill(m, 371, 0, 0, 0), true, true, true)
	expectCalls(t, "P11.1", "401 blocks", fill(m, 372, 0, 0, 0), true, true, false)
	expectCalls(t, "P11.1", "388 blocks and 12", fill(m, 388, 0, 0, 0), true, false, false)
	expectCalls(t, "P11.1", "389 blocks and 12, then 5", fill(m, 389, 0, 0, 0), false, true, false)
	expectCalls(t, "P11.1", "395 blocks and 5", fill(m, 395, 0, 0, 0), false, true, false)
	expectCalls(t, "P11.1", "396 blocks and 5", fill(m, 396, 0, 0, 0), false, false, false)
	expectCalls(t, "P11.1", "400 blocks and more", fill(m, 400, 0, 0, 0), false, false, false)
}

func TestOperations(t *testing.T) {
	m := passes.ParseModule(t, caller(1, 2, 1), long(100), long(40))
	expectCalls(t, "P11.1", "few operations", m, true, true, true)
	expectCalls(t, "P11.1", "6000 operations", fill(m, 0, 5760, 0, 0), true, true, true)
	expectCalls(t, "P11.1", "6001 operations", fill(m, 0, 5761, 0, 0), true, true, false)
	expectCalls(t, "P11.1", "5900 and 100", fill(m, 0, 5900, 0, 0), true, false, false)
	expectCalls(t, "P11.1", "5901 and 100, then 40", fill(m, 0, 5901, 0, 0), false, true, false)
	expectCalls(t, "P11.1", "5960 and 40", fill(m, 0, 5960, 0, 0), false, true, false)
	expectCalls(t, "P11.1", "5961 and 40", fill(m, 0, 5961, 0, 0), false, false, false)
}

// The Binds at the beginning of each added block are operations as well.
func TestOperationsOfBinds(t *testing.T) {
	from := lines("(0) bind 3 to nowhere; bind 4 to constant + 1; bind 4 to constant + 2; bind 0.3 to nowhere; mark 2; bind 5 to nowhere; call 1() 1()",
		"(1) mark 3; call 1() 2()", "(1) return v0")
	m := passes.ParseModule(t, from, chain(4))
	// The first call adds 12 Binds and one operation, the second one that operation alone.
	expectCalls(t, "P11.1", "5987 and 13", fill(m, 0, 5987, 0, 0), true, false)
	expectCalls(t, "P11.1", "5986 and 13 and 1", fill(m, 0, 5986, 0, 0), true, true)
	expectCalls(t, "P11.1", "5988 and 13, then 1", fill(m, 0, 5988, 0, 0), false, true)
	expectCalls(t, "P11.1", "6000 and more", fill(m, 0, 6000, 0, 0), false, false)
}

func TestNumberOfContexts(t *testing.T) {
	m := passes.ParseModule(t, caller(1, 1, 1), chain(1))
	expectCalls(t, "P11.1", "16 contexts", fill(m, 0, 0, 13, 0), true, true, true)
	expectCalls(t, "P11.1", "17 contexts", fill(m, 0, 0, 14, 0), true, true, false)
	expectCalls(t, "P11.1", "15 contexts and one", fill(m, 0, 0, 15, 0), true, false, false)
	expectCalls(t, "P11.1", "16 contexts and one", fill(m, 0, 0, 16, 0), false, false, false)
	expectCalls(t, "P11.1", "64 contexts", fill(m, 0, 0, 64, 0), false, false, false)
	list := []int{}
	want := []bool{}
	for i := range 20 {
		list, want = append(list, 1), append(want, i < 15)
	}
	expectCalls(t, "P11.1", "15 calls", passes.ParseModule(t, caller(list...), chain(1)), want...)
}

func TestNumberOfObjects(t *testing.T) {
	m := passes.ParseModule(t, caller(1, 2, 1, 3),
		lines("object 0 0 2", "object 0 1 2", "object 0 2 2", "object 0 3 2", chain(1)), lines("object 0 9 2", chain(1)), chain(1))
	expectCalls(t, "P11.1", "64 objects", fill(m, 0, 0, 3, 55), true, true, true, true)
	expectCalls(t, "P11.1", "65 objects", fill(m, 0, 0, 3, 56), true, true, false, true)
	expectCalls(t, "P11.1", "60 objects and 4", fill(m, 0, 0, 3, 60), true, false, false, true)
	expectCalls(t, "P11.1", "61 objects and 4, then 1", fill(m, 0, 0, 3, 61), false, true, false, true)
	expectCalls(t, "P11.1", "63 objects and 1", fill(m, 0, 0, 3, 63), false, true, false, true)
	expectCalls(t, "P11.1", "64 objects and 1", fill(m, 0, 0, 3, 64), false, false, false, true)
}

// wide returns a module of which the first function has three calls: of the second one, which has a block with so many parameters; of the third one, which has none; and of the second one again. The first two pass so many values, the last one none.
func wide(t *testing.T, params, passed int) api.Module {
	t.Helper()
	m := passes.ParseModule(t,
		lines("(1) jump 1(v0)", "(1) mark 1; call 1() 3()", "(1) mark 2; call 2() 3()", "(1) mark 3; call 1() 4()", "(1) return v0"),
		lines("(0) v0 = 1; jump 1()", "(0) v0 = 2; return v0"), chain(1))
	leaf := m.Funcs[1].Blocks
	leaf[0].Term.To[0].Args = make([]int, params)
	leaf[1].Params, leaf[1].Ops[0].Dst, leaf[1].Term.A = params, params, params
	blocks := m.Funcs[0].Blocks
	for v := range passed {
		for i := 1; i <= 2; i++ {
			blocks[i].Ops = append(blocks[i].Ops, api.Op{Kind: api.OpConst, Dst: 1 + v, N: v})
			blocks[i].Term.To[0].Args = append(blocks[i].Term.To[0].Args, 1+v)
		}
	}
	blocks[3].Params = 1 + passed
	return m
}

// expectWide checks which of the calls of a wide module are replaced.
func expectWide(t *testing.T, about string, m api.Module, want ...bool) {
	t.Helper()
	got := passes.AppliedModule(t, "P11.1: "+about, Inline, reckon, m)
	for i, replaced := range want {
		if is := got.Funcs[0].Blocks[1+i].Term.Kind == api.TermJump; is != replaced {
			t.Errorf("P11.1: %s: that the call %d is replaced is %t", about, i, is)
		}
	}
}

func TestNumberOfParameters(t *testing.T) {
	expectWide(t, "few parameters", wide(t, 3, 5), true, true, true)
	expectWide(t, "999 parameters of the second block", wide(t, 10, 989), true, true, true)
	expectWide(t, "1000 parameters of the second block", wide(t, 11, 989), false, true, true)
	expectWide(t, "999 parameters and none", wide(t, 999, 0), true, true, true)
	expectWide(t, "999 parameters and one", wide(t, 999, 1), false, true, true)
	expectWide(t, "one parameter and 998", wide(t, 1, 998), true, true, true)
	expectWide(t, "two parameters and 998", wide(t, 2, 998), false, true, true)
	// The block with the most parameters need not be the last one.
	m := wide(t, 11, 989)
	m.Funcs[1].Blocks = append(m.Funcs[1].Blocks, duplicate.Block(m.Funcs[2].Blocks[0]))
	expectWide(t, "1000 parameters ahead of others", m, false, true, true)
}

// A block that only has many parameters because of two edges and the bindings counts as well.
func TestParametersOfBindings(t *testing.T) {
	m := wide(t, 5, 993)
	expectWide(t, "998 parameters", m, true, true, true)
	bind := func(list ...int) api.Module {
		other := duplicate.Module(m)
		b := &other.Funcs[0].Blocks[1]
		for i, v := range list {
			b.Ops = append(b.Ops, api.Op{Kind: api.OpBind, Var: i, Src: api.Src{Kind: api.SrcValue, Val: v}})
		}
		b.Ops = append(b.Ops, api.Op{Kind: api.OpMark, N: 4})
		return other
	}
	expectWide(t, "999 parameters", bind(0, 3, 0), true, true, true)
	b := &m.Funcs[0].Blocks[1]
	b.Ops = append([]api.Op{{Kind: api.OpConst, Dst: 2000}}, b.Ops...)
	expectWide(t, "1000 parameters", bind(0, 2000), false, true, true)
}

// The numbers of values are counted as well.
func TestGreatestNumbers(t *testing.T) {
	numbered := func(n int) api.Module {
		m := wide(t, 3, 7)
		b := &m.Funcs[1].Blocks[1]
		b.Ops[0].Dst, b.Term.A = n, n
		return m
	}
	expectWide(t, "9999", numbered(9992), true, true, true)
	expectWide(t, "10000", numbered(9993), false, true, true)
	expectWide(t, "9999 where nothing is passed", numbered(9999), false, true, true)
	// The value with the greatest number need not be the last one.
	m := numbered(9993)
	b := &m.Funcs[1].Blocks[1]
	b.Ops = append(b.Ops, api.Op{Kind: api.OpConst, Dst: 4})
	expectWide(t, "10000 ahead of others", m, false, true, true)
}

// The function with the call may have such numbers and parameters of its own.
func TestOwnNumbers(t *testing.T) {
	m := passes.ParseModule(t, lines("(0) v9999 = 1; mark 2; call 1(v9999) 1(v9999)", "(2) return v0"), next)
	expectCalls(t, "P11.1", "a great number", m, true)
	c := &m.Funcs[0]
	c.Blocks = append(c.Blocks, api.Block{Params: 999, Term: duplicate.Term(c.Blocks[1].Term)})
	expectCalls(t, "P11.1", "many parameters", m, true)
}
