package ir

import (
	"math/rand/v2"
	"reflect"
	"slices"
	"testing"

	"debugger/api"
)

// writer writes sound modules by chance.
type writer struct {
	*rand.Rand
	m api.Module
}

// pick returns an element of a list.
func pick[T any](w *writer, list []T) T { return list[w.IntN(len(list))] }

// chanceModule returns a sound module, and a source whose variables go with it.
func chanceModule(r *rand.Rand) (api.Source, api.Module) {
	w := &writer{Rand: r}
	s := api.Source{}
	funcs := 1 + r.IntN(4)
	for f := range funcs {
		c := api.Code{Params: r.IntN(4), Contexts: []api.Context{{Parent: -1, Stmt: -1, Func: f}}}
		for range r.IntN(4) {
			c.Contexts = append(c.Contexts, api.Context{Parent: r.IntN(len(c.Contexts)), Stmt: r.IntN(10), Func: r.IntN(funcs)})
		}
		for range r.IntN(4) {
			o := api.Object{Ctx: r.IntN(len(c.Contexts)), Var: r.IntN(4), Words: 1 + r.IntN(4)}
			if !slices.ContainsFunc(c.Objects, func(x api.Object) bool { return x.Ctx == o.Ctx && x.Var == o.Var }) {
				c.Objects = append(c.Objects, o)
			}
		}
		c.Blocks = append(c.Blocks, api.Block{Params: c.Params})
		for range 1 + r.IntN(5) {
			c.Blocks = append(c.Blocks, api.Block{Params: r.IntN(4)})
		}
		w.m.Funcs = append(w.m.Funcs, c)
		list := []api.VarInfo{}
		for range r.IntN(6) {
			list = append(list, api.VarInfo{Kind: 1 + r.IntN(3), Words: 1 + r.IntN(5), From: r.IntN(4), To: 3 + r.IntN(7)})
		}
		s.Vars = append(s.Vars, list)
	}
	for f := range w.m.Funcs {
		for b := range w.m.Funcs[f].Blocks {
			w.fill(&w.m.Funcs[f], &w.m.Funcs[f].Blocks[b])
		}
	}
	return s, w.m
}

// fill writes a block's operations and its terminator.
func (w *writer) fill(c *api.Code, b *api.Block) {
	values := []int{}
	for v := range b.Params {
		values = append(values, v)
	}
	free := b.Params
	for range w.IntN(12) {
		o := w.operation(c, values)
		if o.Kind >= api.OpConst && o.Kind <= api.OpLoad {
			free += w.IntN(3)
			o.Dst = free
			values = append(values, o.Dst)
			free++
		}
		b.Ops = append(b.Ops, o)
	}
	if len(values) == 0 {
		b.Ops = append(b.Ops, api.Op{Kind: api.OpConst, Dst: 3, N: w.IntN(3)})
		values = append(values, 3)
	}
	for i := range b.Ops {
		if b.Ops[i].Src.Kind == api.SrcValue {
			b.Ops[i].Src.Val = pick(w, values)
		}
	}
	b.Term = w.terminator(c, values)
}

// operation returns one; a Bind to a value and the number of what is defined are still to be filled in.
func (w *writer) operation(c *api.Code, values []int) api.Op {
	ctx := w.IntN(len(c.Contexts))
	switch n := w.IntN(20); {
	case n < 5:
		return api.Op{Kind: api.OpMark, N: w.IntN(10), Ctx: ctx}
	case n < 6:
		return api.Op{Kind: api.OpAt, N: w.IntN(10), Ctx: ctx}
	case n < 10:
		src := api.Src{Kind: w.IntN(4)}
		if src.Kind == api.SrcEntry && c.Params == 0 {
			src.Kind = api.SrcConstant
		}
		if src.Kind == api.SrcEntry {
			src.Val = w.IntN(c.Params)
		}
		if src.Kind != api.SrcNowhere {
			src.Add = pick(w, []int{0, 0, 1, -3, greatest})
		}
		return api.Op{Kind: api.OpBind, Ctx: ctx, Var: w.IntN(4), Piece: w.IntN(3), Src: src}
	case n < 12 || len(values) == 0:
		return api.Op{Kind: api.OpConst, N: pick(w, []int{0, 1, 2, -1, 5, least, greatest, 1 << 40})}
	case n < 14 && len(c.Objects) > 0:
		o := api.Op{Kind: api.OpLoad + w.IntN(3), N: w.IntN(len(c.Objects))}
		if o.Kind != api.OpZero {
			o.A = pick(w, values)
		}
		if o.Kind == api.OpStore {
			o.B = pick(w, values)
		}
		return o
	case n < 15:
		return api.Op{Kind: api.OpPrint, A: pick(w, values)}
	case n < 16:
		return api.Op{Kind: api.OpCopy, A: pick(w, values)}
	}
	return api.Op{Kind: api.OpAdd + w.IntN(12), A: pick(w, values), B: pick(w, values)}
}

func (w *writer) terminator(c *api.Code, values []int) api.Term {
	none := api.Edge{Block: -1}
	t := api.Term{To: [2]api.Edge{none, none}}
	arguments := func(n int) []int {
		list := []int{}
		for range n {
			list = append(list, pick(w, values))
		}
		return list
	}
	edge := func(first int) api.Edge {
		for range 9 {
			if block := 1 + w.IntN(len(c.Blocks)-1); c.Blocks[block].Params >= first {
				return api.Edge{Block: block, Args: arguments(c.Blocks[block].Params - first)}
			}
		}
		return none
	}
	switch n := w.IntN(12); {
	case n < 3:
		t.Kind, t.To[0] = api.TermJump, edge(0)
	case n < 6:
		t.Kind, t.A, t.To[0], t.To[1] = api.TermBranch, pick(w, values), edge(0), edge(0)
	case n < 9:
		t.Kind, t.N, t.To[0] = api.TermCall, w.IntN(len(w.m.Funcs)), edge(1)
		t.Args = arguments(w.m.Funcs[t.N].Params)
		if w.IntN(2) > 0 {
			t.To[1] = edge(1)
		}
		if t.To[0].Block < 0 {
			return api.Term{Kind: api.TermThrow, A: pick(w, values), To: [2]api.Edge{none, none}}
		}
	case n < 10:
		t.Kind, t.N = api.TermTail, w.IntN(len(w.m.Funcs))
		t.Args = arguments(w.m.Funcs[t.N].Params)
	default:
		t.Kind, t.A = api.TermReturn+w.IntN(2), pick(w, values)
	}
	return t
}

func TestModulesByChance(t *testing.T) {
	r := rand.New(rand.NewPCG(6, 1))
	outcomes, all := map[string]int{}, 0
	for range 3000 {
		s, m := chanceModule(r)
		if e := Check(m); e != api.OK {
			t.Fatalf("P6.2: %s\nis refused: %d", text(m), e)
		}
		f, args := r.IntN(len(m.Funcs)), []int{}
		for range m.Funcs[f].Params {
			args = append(args, r.IntN(5)-1)
		}
		steps := r.IntN(60)
		events, o := whole(s, m, f, args, steps)
		want, end := simulate(s, m, f, args, steps)
		if key(o) != key(end) || key(events) != key(want) {
			t.Fatalf("P6.3: function %d of\n%s\nwith %v and %d steps, source %+v:\n%+v %v\nnot\n%+v %v", f, text(m), args, steps, s, o, events, end, want)
		}
		kind := "value"
		if o.Thrown {
			kind = "thrown"
		}
		if o.Err != api.OK {
			kind = key(o.Err)
		}
		outcomes[kind]++
		all += len(events)
	}
	t.Logf("outcomes %v, %d events", outcomes, all)
	for _, kind := range []string{"value", "thrown", key(api.ErrFuel), key(api.ErrLimit)} {
		if outcomes[kind] < 50 {
			t.Errorf("only %d runs end with %s", outcomes[kind], kind)
		}
	}
}

// expected returns the error of a module by the second implementation.
func expected(m api.Module) api.Errno {
	if len(m.Funcs) > 8 {
		return api.ErrLimit
	}
	for _, c := range m.Funcs {
		if e := expectedOf(c); e != api.OK {
			return e
		}
	}
	for f, c := range m.Funcs {
		for i, x := range c.Contexts {
			if x.Func >= len(m.Funcs) || i == 0 && x.Func != f {
				return api.ErrForm
			}
		}
		for _, b := range c.Blocks {
			if b.Term.Kind != api.TermCall && b.Term.Kind != api.TermTail {
				continue
			}
			if b.Term.N >= len(m.Funcs) || m.Funcs[b.Term.N].Params != len(b.Term.Args) {
				return api.ErrForm
			}
		}
	}
	return api.OK
}

// expectedOf returns the error of a code by the second implementation.
func expectedOf(c api.Code) api.Errno {
	ops := 0
	for _, b := range c.Blocks {
		ops += len(b.Ops)
	}
	switch {
	case len(c.Blocks) > 400, ops > 6000, len(c.Contexts) > 64, len(c.Objects) > 64:
		return api.ErrLimit
	case refused(c):
		return api.ErrForm
	}
	return api.OK
}

// Modules in which a few numbers and lists are changed have the errors that they should have, and run like those that are sound if they have none.
func TestChangedModules(t *testing.T) {
	r := rand.New(rand.NewPCG(6, 2))
	sound := 0
	for range 6000 {
		s, m := chanceModule(r)
		m = roomy(m)
		for range 1 + r.IntN(2) {
			places := changeable(reflect.ValueOf(&m).Elem())
			change(r, places[r.IntN(len(places))])
		}
		want := expected(m)
		if got := Check(m); got != want {
			t.Fatalf("P6.2: the error of %+v is %d, not %d", m, got, want)
		}
		for _, c := range m.Funcs {
			if got := CheckCode(c); got != expectedOf(c) {
				t.Fatalf("P6.1: the error of %+v is %d, not %d", c, got, expectedOf(c))
			}
		}
		if len(m.Funcs) == 0 || m.Funcs[0].Params < 0 {
			continue
		}
		args := make([]int, min(m.Funcs[0].Params, 4))
		events, o := Trace(s, m, 0, args, 30, 0, 100)
		if want != api.OK {
			if len(events) > 0 || key(o) != key(api.Outcome{Err: want}) {
				t.Fatalf("P6.3: %+v has %d events and the outcome %+v", m, len(events), o)
			}
			continue
		}
		sound++
		all, end := simulate(s, m, 0, args, 30)
		if key(events) != key(all) || key(o) != key(end) {
			t.Fatalf("P6.3: %s\nhas the events %s and the outcome %+v, not %s and %+v", text(m), key(events), o, key(all), end)
		}
	}
	t.Logf("%d modules are still sound", sound)
	if sound < 500 || sound > 5000 {
		t.Errorf("%d modules are still sound", sound)
	}
}

// changeable returns all numbers and slices of a value.
func changeable(v reflect.Value) []reflect.Value {
	l := []reflect.Value{}
	switch v.Kind() {
	case reflect.Int:
		l = append(l, v)
	case reflect.Slice:
		l = append(l, v)
		for i := range v.Len() {
			l = append(l, changeable(v.Index(i))...)
		}
	case reflect.Array:
		for i := range v.Len() {
			l = append(l, changeable(v.Index(i))...)
		}
	case reflect.Struct:
		for i := range v.NumField() {
			l = append(l, changeable(v.Field(i))...)
		}
	}
	return l
}

func change(r *rand.Rand, v reflect.Value) {
	numbers := []int{least, -1 << 40, -2, -1, 0, 1, 2, 3, 4, 5, 8, 9, 24, 1 << 20, 1 << 40, greatest}
	switch {
	case v.Kind() == reflect.Slice:
		v.SetLen(r.IntN(v.Cap() + 1))
	case r.IntN(2) > 0:
		v.SetInt(v.Int() + int64(r.IntN(3)) - 1)
	default:
		v.SetInt(int64(numbers[r.IntN(len(numbers))]))
	}
}

// Sources that are not promised end without a panic.
func TestOtherSources(t *testing.T) {
	r := rand.New(rand.NewPCG(6, 3))
	for range 3000 {
		s, m := chanceModule(r)
		s = roomy(s)
		for range 1 + r.IntN(6) {
			places := changeable(reflect.ValueOf(&s).Elem())
			change(r, places[r.IntN(len(places))])
		}
		_, o := Trace(s, m, 0, make([]int, m.Funcs[0].Params), 30, 0, 100)
		if _, end := Trace(api.Source{}, m, 0, make([]int, m.Funcs[0].Params), 30, 0, 0); key(o) != key(end) {
			t.Fatalf("P6.3: the outcome depends on the source: %+v and %+v", o, end)
		}
	}
	for _, words := range []int{least, -1, 0, api.MaxLen + 1, 1 << 40, 1 << 60, greatest} {
		for kind := range 4 {
			s := api.Source{Vars: [][]api.VarInfo{{{Kind: kind, Words: words, To: 9}}}}
			Trace(s, module(t, "object 0 0 8\n(1) bind 0 to v0; mark 0; return v0"), 0, []int{1}, 10, 0, 10)
		}
	}
	// The rest of a source does not matter.
	s, m := busy(t)
	other := api.Source{Program: api.Program{Funcs: make([]api.Func, 1)}, Stmts: make([]api.StmtInfo, 2), Vars: roomy(s.Vars)}
	for f := range other.Vars {
		for v := range other.Vars[f] {
			other.Vars[f][v].Name, other.Vars[f][v].Record, other.Vars[f][v].Param = "x", 7, true
		}
	}
	events, o := whole(s, m, 0, []int{3, 2}, 1000)
	again, end := whole(other, m, 0, []int{3, 2}, 1000)
	if key(events) != key(again) || key(o) != key(end) {
		t.Error("P6.3: Trace uses more of a source than its variables")
	}
}
