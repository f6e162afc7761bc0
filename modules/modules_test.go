package modules

import (
	"fmt"
	"math/rand/v2"
	"testing"

	"debugger/api"
	"debugger/ir"
)

func TestModule(t *testing.T) { expectModules(t, Module) }

func TestWide(t *testing.T) {
	expectModules(t, Wide)
	r := rand.New(rand.NewPCG(3, 2))
	params, ops := 0, 0
	for range 200 {
		_, m := Wide(r.IntN)
		for _, c := range m.Funcs {
			for _, b := range c.Blocks {
				if b.Params > api.InRegs {
					params++
				}
				if len(b.Ops) > 40 {
					ops++
				}
			}
		}
	}
	if min(params, ops) < 200 {
		t.Errorf("only %d blocks have many parameters, and %d many operations", params, ops)
	}
}

// expectModules checks that modules are sound and varied, and always the same for the same choices.
func expectModules(t *testing.T, module func(choose func(n int) int) (api.Source, api.Module)) {
	t.Helper()
	r, again := rand.New(rand.NewPCG(3, 1)), rand.New(rand.NewPCG(3, 1))
	ops, terms, sources := map[int]int{}, map[int]int{}, map[int]int{}
	outcomes, all := map[string]int{}, 0
	for range 2000 {
		s, m := module(r.IntN)
		if _, other := module(again.IntN); fmt.Sprint(other) != fmt.Sprint(m) {
			t.Fatalf("the same choices lead to %v and %v", m, other)
		}
		if e := ir.Check(m); e != api.OK {
			t.Fatalf("%+v\nis refused: %d", m, e)
		}
		for _, c := range m.Funcs {
			for _, b := range c.Blocks {
				terms[b.Term.Kind]++
				for _, o := range b.Ops {
					ops[o.Kind]++
					if o.Kind == api.OpBind {
						sources[o.Src.Kind]++
					}
				}
			}
		}
		events, o := ir.Trace(s, m, 0, make([]int, m.Funcs[0].Params), 60, 0, 100)
		outcomes[fmt.Sprint(o.Err, o.Thrown)]++
		all += len(events)
	}
	t.Logf("terminators %v, operations %v, outcomes %v, %d events", terms, ops, outcomes, all)
	for kind := api.OpConst; kind <= api.OpBind; kind++ {
		if ops[kind] < 400 {
			t.Errorf("there are only %d operations of the kind %d", ops[kind], kind)
		}
	}
	for kind := api.TermJump; kind <= api.TermTail; kind++ {
		if terms[kind] < 400 {
			t.Errorf("there are only %d terminators of the kind %d", terms[kind], kind)
		}
	}
	for kind := api.SrcNowhere; kind <= api.SrcEntry; kind++ {
		if sources[kind] < 400 {
			t.Errorf("there are only %d Binds of the kind %d", sources[kind], kind)
		}
	}
	for _, kind := range []string{"0 false", "0 true", fmt.Sprint(int(api.ErrFuel), " false"), fmt.Sprint(int(api.ErrLimit), " false")} {
		if outcomes[kind] < 40 {
			t.Errorf("only %d runs have the outcome %s", outcomes[kind], kind)
		}
	}
	if all < 2000 {
		t.Errorf("there are only %d events", all)
	}
}
