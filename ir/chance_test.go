package ir

import (
	"math/rand/v2"
	"reflect"
	"testing"

	"debugger/api"
	"debugger/modules"
)

func TestModulesByChance(t *testing.T) {
	r := rand.New(rand.NewPCG(6, 1))
	outcomes, all := map[string]int{}, 0
	for range 3000 {
		s, m := modules.Module(r.IntN)
		if e := Check(m); e != api.OK {
			t.Fatalf("P6.2: %s\nis refused: %d", text(m), e)
		}
		f, args := r.IntN(len(m.Funcs)), []int{}
		for range m.Funcs[f].Params {
			args = append(args, r.IntN(5)-1)
		}
		steps := r.IntN(60)
		events, o := whole(s, m, f, args, steps)
		want, end := simulate(s, m, f, args, steps)
		if key(o) != key(end) || key(events) != key(want) {
			t.Fatalf("P6.3: function %d of\n%s\nwith %v and %d steps, source %+v:\n%+v %v\nnot\n%+v %v", f, text(m), args, steps, s, o, events, end, want)
		}
		kind := "value"
		if o.Thrown {
			kind = "thrown"
		}
		if o.Err != api.OK {
			kind = key(o.Err)
		}
		outcomes[kind]++
		all += len(events)
	}
	t.Logf("outcomes %v, %d events", outcomes, all)
	for _, kind := range []string{"value", "thrown", key(api.ErrFuel), key(api.ErrLimit)} {
		if outcomes[kind] < 50 {
			t.Errorf("only %d runs end with %s", outcomes[kind], kind)
		}
	}
}

// expected returns the error of a module by the second implementation.
func expected(m api.Module) api.Errno {
	if len(m.Funcs) > 8 {
		return api.ErrLimit
	}
	for _, c := range m.Funcs {
		if e := expectedOf(c); e != api.OK {
			return e
		}
	}
	for f, c := range m.Funcs {
		for i, x := range c.Contexts {
			if x.Func >= len(m.Funcs) || i == 0 && x.Func != f {
				return api.ErrForm
			}
		}
		for _, b := range c.Blocks {
			if b.Term.Kind != api.TermCall && b.Term.Kind != api.TermTail {
				continue
			}
			if b.Term.N >= len(m.Funcs) || m.Funcs[b.Term.N].Params != len(b.Term.Args) {
				return api.ErrForm
			}
		}
	}
	return api.OK
}

// expectedOf returns the error of a code by the second implementation.
func expectedOf(c api.Code) api.Errno {
	ops := 0
	for _, b := range c.Blocks {
		ops += len(b.Ops)
	}
	switch {
	case len(c.Blocks) > 400, ops > 6000, len(c.Contexts) > 64, len(c.Objects) > 64:
		return api.ErrLimit
	case refused(c):
		return api.ErrForm
	}
	return api.OK
}

// Modules in which a few numbers and lists are changed have the errors that they should have, and run like those that are sound if they have none.
func TestChangedModules(t *testing.T) {
	r := rand.New(rand.NewPCG(6, 2))
	sound := 0
	for range 6000 {
		s, m := modules.Module(r.IntN)
		m = roomy(m)
		for range 1 + r.IntN(2) {
			places := changeable(reflect.ValueOf(&m).Elem())
			change(r, places[r.IntN(len(places))])
		}
		want := expected(m)
		if got := Check(m); got != want {
			t.Fatalf("P6.2: the error of %+v is %d, not %d", m, got, want)
		}
		for _, c := range m.Funcs {
			if got := CheckCode(c); got != expectedOf(c) {
				t.Fatalf("P6.1: the error of %+v is %d, not %d", c, got, expectedOf(c))
			}
		}
		if len(m.Funcs) == 0 || m.Funcs[0].Params < 0 {
			continue
		}
		args := make([]int, min(m.Funcs[0].Params, 4))
		events, o := Trace(s, m, 0, args, 30, 0, 100)
		if want != api.OK {
			if len(events) > 0 || key(o) != key(api.Outcome{Err: want}) {
				t.Fatalf("P6.3: %+v has %d events and the outcome %+v", m, len(events), o)
			}
			continue
		}
		sound++
		all, end := simulate(s, m, 0, args, 30)
		if key(events) != key(all) || key(o) != key(end) {
			t.Fatalf("P6.3: %s\nhas the events %s and the outcome %+v, not %s and %+v", text(m), key(events), o, key(all), end)
		}
	}
	t.Logf("%d modules are still sound", sound)
	if sound < 500 || sound > 5000 {
		t.Errorf("%d modules are still sound", sound)
	}
}

// changeable returns all numbers and slices of a value.
func changeable(v reflect.Value) []reflect.Value {
	l := []reflect.Value{}
	switch v.Kind() {
	case reflect.Int:
		l = append(l, v)
	case reflect.Slice:
		l = append(l, v)
		for i := range v.Len() {
			l = append(l, changeable(v.Index(i))...)
		}
	case reflect.Array:
		for i := range v.Len() {
			l = append(l, changeable(v.Index(i))...)
		}
	case reflect.Struct:
		for i := range v.NumField() {
			l = append(l, changeable(v.Field(i))...)
		}
	}
	return l
}

func change(r *rand.Rand, v reflect.Value) {
	numbers := []int{least, -1 << 40, -2, -1, 0, 1, 2, 3, 4, 5, 8, 9, 24, 1 << 20, 1 << 40, greatest}
	switch {
	case v.Kind() == reflect.Slice:
		v.SetLen(r.IntN(v.Cap() + 1))
	case r.IntN(2) > 0:
		v.SetInt(v.Int() + int64(r.IntN(3)) - 1)
	default:
		v.SetInt(int64(numbers[r.IntN(len(numbers))]))
	}
}

// Sources that are not promised end without a panic.
func TestOtherSources(t *testing.T) {
	r := rand.New(rand.NewPCG(6, 3))
	for range 3000 {
		s, m := modules.Module(r.IntN)
		s = roomy(s)
		for range 1 + r.IntN(6) {
			places := changeable(reflect.ValueOf(&s).Elem())
			change(r, places[r.IntN(len(places))])
		}
		_, o := Trace(s, m, 0, make([]int, m.Funcs[0].Params), 30, 0, 100)
		if _, end := Trace(api.Source{}, m, 0, make([]int, m.Funcs[0].Params), 30, 0, 0); key(o) != key(end) {
			t.Fatalf("P6.3: the outcome depends on the source: %+v and %+v", o, end)
		}
	}
	for _, words := range []int{least, -1, 0, api.MaxLen + 1, 1 << 40, 1 << 60, greatest} {
		for kind := range 4 {
			s := api.Source{Vars: [][]api.VarInfo{{{Kind: kind, Words: words, To: 9}}}}
			Trace(s, module(t, "object 0 0 8\n(1) bind 0 to v0; mark 0; return v0"), 0, []int{1}, 10, 0, 10)
		}
	}
	// The rest of a source does not matter.
	s, m := busy(t)
	other := api.Source{Program: api.Program{Funcs: make([]api.Func, 1)}, Stmts: make([]api.StmtInfo, 2), Vars: roomy(s.Vars)}
	for f := range other.Vars {
		for v := range other.Vars[f] {
			other.Vars[f][v].Name, other.Vars[f][v].Record, other.Vars[f][v].Param = "x", 7, true
		}
	}
	events, o := whole(s, m, 0, []int{3, 2}, 1000)
	again, end := whole(other, m, 0, []int{3, 2}, 1000)
	if key(events) != key(again) || key(o) != key(end) {
		t.Error("P6.3: Trace uses more of a source than its variables")
	}
}
