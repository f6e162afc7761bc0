package emit

import (
	"math/rand/v2"
	"testing"

	"debugger/api"
	"debugger/ir"
	"debugger/isa"
	"debugger/modules"
	"debugger/operation"
	"debugger/optimised"
	"debugger/passes"
)

// tamed returns a module whose functions begin by making their objects 0, and use only elements that there are: for the machine there is nothing else.
func tamed(m api.Module) api.Module {
	result := api.Module{}
	for _, c := range m.Funcs {
		c = passes.Roomy(c)
		for i := range c.Blocks {
			c.Blocks[i].Ops = tamedOps(c, i)
		}
		result.Funcs = append(result.Funcs, c)
	}
	return result
}

func tamedOps(c api.Code, block int) []api.Op {
	ops, free := []api.Op{}, c.Blocks[block].Params
	for _, o := range c.Blocks[block].Ops {
		if operation.Defines(o.Kind) {
			free = max(free, o.Dst+1)
		}
	}
	for n := range c.Objects {
		if block == 0 {
			ops = append(ops, api.Op{Kind: api.OpZero, N: n})
		}
	}
	for _, o := range c.Blocks[block].Ops {
		if o.Kind == api.OpLoad || o.Kind == api.OpStore {
			mask := [...]int{0, 0, 1, 1, 3}[c.Objects[o.N].Words]
			ops = append(ops, api.Op{Kind: api.OpConst, Dst: free, N: mask}, api.Op{Kind: api.OpAnd, Dst: free + 1, A: o.A, B: free})
			o.A = free + 1
			free += 2
		}
		ops = append(ops, o)
	}
	return ops
}

// runs counts runs that ended, those that did by throwing, and what was looked at on the way.
type runs struct{ ended, thrown, places, arguments, events, words int }

// program is a module with its unit, and what the second implementation says of its lines.
type program struct {
	s     api.Source
	m     api.Module
	keep  bool
	u     api.Unit
	lines []line
}

func programOf(t *testing.T, s api.Source, m api.Module, keep bool) program {
	t.Helper()
	u, e := Emit(m, keep)
	_, err, lines := reckon(m, keep)
	if e != api.OK || err != api.OK {
		t.Fatalf("the errors are %d and %d", e, err)
	}
	return program{s, m, keep, u, lines}
}

// expectRun checks that a function of a program has the outcome of the intermediate code if that ends, and on the way that what the unit says is true. It returns nil if it does not end.
func (x *runs) expectRun(t *testing.T, p program, f int, args []int) *walker {
	t.Helper()
	_, want := ir.Trace(p.s, p.m, f, args, 300, 0, 0)
	if want.Err != api.OK {
		return nil
	}
	w := newWalker(t, p.s, p.m, p.u, p.lines)
	steps := w.run(f, args)
	for _, got := range []api.Outcome{w.out, isa.Run(p.u.Words, len(p.u.Words)+stack, p.u.Funcs[f].Lo, args, steps)} {
		if !passes.EqualOutcomes(got, want) {
			t.Fatalf("S1: the outcome is %+v, not %+v, of function %d with %v:\n%s\n%s", got, want, f, args, passes.PrintModule(p.m), shown(p.u.Words))
		}
	}
	x.ended++
	if want.Thrown {
		x.thrown++
	}
	x.places, x.arguments = x.places+w.places, x.arguments+w.arguments
	return w
}

func TestRunsByChance(t *testing.T) {
	r := rand.New(rand.NewPCG(17, 2))
	x := [2]runs{}
	for n := range 1200 {
		s, m := modules.Module(r.IntN)
		if n%4 < 2 {
			s, m = modules.Wide(r.IntN)
		}
		p := programOf(t, s, tamed(m), n%2 > 0)
		for f, c := range m.Funcs {
			for range 3 {
				x[n%2].expectRun(t, p, f, passes.Arguments(r.IntN, c.Params))
			}
		}
	}
	t.Logf("%+v", x)
	for _, x := range x {
		if x.ended < 2000 || x.thrown < 800 || x.places < 100000 || x.arguments < 500 {
			t.Errorf("only %+v", x)
		}
	}
}

// expectShown checks that what a unit shows where statements begin is like what the intermediate code shows there, with keep for every event.
func (x *runs) expectShown(t *testing.T, p program, f int, args []int, like func(got, want []api.Event) bool) {
	t.Helper()
	w := x.expectRun(t, p, f, args)
	if w == nil {
		return
	}
	all, _ := passes.Whole(p.s, p.m, f, args, 300)
	for n, e := range w.events {
		if n >= len(all) || !like([]api.Event{e}, all[n:n+1]) {
			t.Fatalf("S2, S3: the event %d is %+v, not one of %+v, in\n%s%s", n, e, all, passes.PrintModule(p.m), shown(p.u.Words))
		}
		x.words += passes.Words([]api.Event{e})
	}
	x.events += len(w.events)
	if p.keep && len(w.events) != len(all) {
		t.Fatalf("S2: %d events, not %d, in\n%s", len(w.events), len(all), passes.PrintModule(p.m))
	}
}

// Programs have the outcome of the intermediate code behind the passes of each level; at level 0 with keep they show everything, and otherwise nothing that is wrong.
func TestProgramsByChance(t *testing.T) {
	r := rand.New(rand.NewPCG(17, 3))
	x := [3][2]runs{}
	for range 300 {
		s, m := passes.Program(t, r.IntN)
		for level := range x {
			other := optimised.Module(m, level)
			like := passes.Within
			if level == 0 {
				like = passes.EqualEvents
			}
			kept, free := programOf(t, s, other, true), programOf(t, s, other, false)
			for f, c := range other.Funcs {
				for range 2 {
					args := passes.Arguments(r.IntN, c.Params)
					x[level][0].expectShown(t, kept, f, args, like)
					x[level][1].expectShown(t, free, f, args, passes.Within)
				}
			}
		}
	}
	t.Logf("%+v", x)
	for _, x := range x {
		for _, x := range x {
			if x.ended < 1000 || x.thrown < 100 || x.places < 20000 || x.arguments < 100 || x.events < 2000 || x.words < 4000 {
				t.Errorf("only %+v", x)
			}
		}
	}
}
