package emit

import (
	"slices"
	"testing"

	"debugger/api"
	"debugger/arithmetic"
	"debugger/checker"
	"debugger/isa"
	"debugger/operation"
	"debugger/passes"
)

const (
	stack   = 4000   // words of memory behind the program
	mostRun = 200000 // instructions
)

// walker runs the code of a unit, instruction by instruction, and the intermediate code beside it, operation by operation. So it knows the value of everything that a piece is bound to at each address.
type walker struct {
	t         *testing.T
	s         api.Source
	m         api.Module
	u         api.Unit
	lines     []line // of the second implementation: which operation each address belongs to, and what is bound there
	ranges    [][]api.Range
	sites     map[int]api.Site
	cpu       api.Cpu
	memory    []int
	live      []*activation // the innermost one last
	marks     int           // that the intermediate code has passed
	out       api.Outcome
	events    map[int]api.Event // what the unit shows where a statement begins, by the number of Marks ahead
	places    int               // that were looked at
	arguments int               // of sites
}

// activation is one of the intermediate code, with the call that it waits for.
type activation struct {
	f, block, done int  // operations of the block that are executed
	tailed         bool // whether it took the place of another one
	args           []int
	values         map[int]int
	objects        [][]int
	call, sp       int // the address of the Call that is executed, and the stack pointer ahead of it
	result         int // of the call
	thrown         bool
}

func newWalker(t *testing.T, s api.Source, m api.Module, u api.Unit, lines []line) *walker {
	w := &walker{t: t, s: s, m: m, u: u, lines: lines, ranges: make([][]api.Range, u.Code), sites: map[int]api.Site{}}
	for _, f := range u.Funcs {
		for _, r := range f.Ranges {
			for addr := r.Lo; addr < r.Hi; addr++ {
				w.ranges[addr] = append(w.ranges[addr], r)
			}
		}
		for _, x := range f.Sites {
			w.sites[x.Addr] = x
		}
	}
	return w
}

func (w *walker) fail(format string, args ...any) {
	w.t.Helper()
	w.t.Logf("at %d of %s\n%s", w.cpu.PC, shown(w.u.Words), passes.PrintModule(w.m))
	w.t.Fatalf(format, args...)
}

func (w *walker) now() *activation { return w.live[len(w.live)-1] }

// activate begins an activation of the intermediate code.
func (w *walker) activate(f int, args []int) {
	a := &activation{f: f, args: args}
	for _, o := range w.m.Funcs[f].Objects {
		a.objects = append(a.objects, make([]int, o.Words))
	}
	a.enter(0, args)
	w.live = append(w.live, a)
}

// enter begins a block.
func (a *activation) enter(block int, params []int) {
	a.block, a.done, a.values = block, 0, map[int]int{}
	for v, word := range params {
		a.values[v] = word
	}
}

func (w *walker) term(a *activation) api.Term { return w.m.Funcs[a.f].Blocks[a.block].Term }

// follow goes on along an edge, behind a call with what it has left.
func (a *activation) follow(e api.Edge, first ...int) {
	params := slices.Clone(first)
	for _, v := range e.Args {
		params = append(params, a.values[v])
	}
	a.enter(e.Block, params)
}

// advance executes the operations ahead of the one that the next instruction belongs to.
func (w *walker) advance(a *activation, op int) {
	for ops := w.m.Funcs[a.f].Blocks[a.block].Ops; a.done < op; a.done++ {
		switch o := ops[a.done]; o.Kind {
		case api.OpConst:
			a.values[o.Dst] = o.N
		case api.OpCopy:
			a.values[o.Dst] = a.values[o.A]
		case api.OpLoad:
			a.values[o.Dst] = a.objects[o.N][a.values[o.A]]
		case api.OpStore:
			a.objects[o.N][a.values[o.A]] = a.values[o.B]
		case api.OpZero:
			clear(a.objects[o.N])
		case api.OpMark:
			w.marks++
		case api.OpPrint, api.OpAt, api.OpBind:
		default:
			a.values[o.Dst] = arithmetic.Value(operation.Operator(o.Kind), a.values[o.A], a.values[o.B])
		}
	}
}

// run runs a function and returns how many instructions were executed.
func (w *walker) run(f int, args []int) int {
	last := len(w.u.Words) + stack - 1
	w.cpu, w.memory, w.events = api.Cpu{PC: w.u.Funcs[f].Lo}, make([]int, last+1), map[int]api.Event{}
	w.live, w.marks, w.out = nil, 0, api.Outcome{}
	copy(w.memory, w.u.Words)
	copy(w.cpu.R[1:], args)
	w.cpu.R[api.SP] = last
	w.memory[last] = api.Exit
	// What is in registers and on the stack before is no part of the program.
	for n := range w.cpu.R {
		if n == 0 || n > len(args) && n != api.SP {
			w.cpu.R[n] = 7770 + n
		}
	}
	for n := len(w.u.Words); n < last; n++ {
		w.memory[n] = 77700000 + n
	}
	w.activate(f, args)
	steps := 0
	for ; w.cpu.PC != api.Exit && steps < mostRun; steps++ {
		w.look()
		w.step()
	}
	w.out.Value, w.out.Thrown = w.cpu.R[0], w.cpu.R[13] != 0
	return steps
}

// look checks what the unit says of the next instruction.
func (w *walker) look() {
	l, a := w.lines[w.cpu.PC], w.now()
	if l.f != a.f || l.block >= 0 && l.block != a.block {
		w.fail("S1: the machine is in block %d of function %d, not in block %d of %d", l.block, l.f, a.block, a.f)
	}
	if l.block < 0 {
		return
	}
	w.advance(a, l.op)
	w.expectHeld(a, w.cpu.PC, w.cpu.R[api.SP], true)
	row := w.row(a.f, w.cpu.PC)
	if row.Mark && row.Addr == w.cpu.PC {
		marks := w.marks
		if ops := w.m.Funcs[a.f].Blocks[a.block].Ops; l.op < len(ops) && ops[l.op].Kind == api.OpMark {
			marks++ // the Nop belongs to the Mark itself
		}
		w.events[marks-1] = w.event()
	}
}

// expectHeld checks that the places of all ranges at an address hold the value that the piece is bound to; registers only with inner.
func (w *walker) expectHeld(a *activation, addr, sp int, inner bool) {
	for _, r := range w.ranges[addr] {
		s, is := w.lines[addr].current[piece{r.Ctx, r.Var, r.Piece}]
		want := s.Add
		switch s.Kind {
		case api.SrcValue:
			v, has := a.values[s.Val]
			is = is && has
			want += v
		case api.SrcEntry:
			want += a.args[s.Val]
		}
		if !is {
			w.fail("P17.7: nothing is bound to the piece of %+v", r)
		}
		for _, p := range r.Places {
			if word, known := w.word(a, p, sp, inner); known && word != want {
				w.fail("S3 to S5: the place %+v of %+v is %d, not %d", p, r, word, want)
			} else if known {
				w.places++
			}
		}
	}
}

// word returns what is at a place, and whether that is known.
func (w *walker) word(a *activation, p api.Place, sp int, inner bool) (int, bool) {
	switch {
	case p.Kind == api.PlaceConst:
		return p.Add, true
	case p.Kind == api.PlaceReg && inner:
		return w.cpu.R[p.N] + p.Add, true
	case p.Kind == api.PlaceSlot:
		return w.memory[sp+p.N] + p.Add, true
	case p.Kind == api.PlaceEntry:
		return a.args[p.N-1] + p.Add, true
	}
	return 0, false
}

// expectOuter checks the places of all activations that wait for a call.
func (w *walker) expectOuter() {
	for i, a := range w.live[:len(w.live)-1] {
		w.expectHeld(a, a.call, a.sp, false)
		if callee := w.live[i+1]; !callee.tailed {
			w.expectPassed(w.sites[a.call], a, callee.args)
		}
	}
}

// expectPassed checks the places of the arguments of a site.
func (w *walker) expectPassed(s api.Site, a *activation, args []int) {
	for i, p := range s.Args {
		if p == (api.Place{}) || s.Tail && p.Kind != api.PlaceConst {
			continue
		}
		if word, known := w.word(a, p, a.sp, false); !known || word != args[i] {
			w.fail("P17.8: the argument %d of %+v is %d, not %d", i, s, word, args[i])
		}
		w.arguments++
	}
}

// step executes an instruction, and what follows from it for the intermediate code.
func (w *walker) step() {
	pc := w.cpu.PC
	i, e := isa.Decode(w.memory[pc])
	if e != api.OK {
		w.fail("there is no instruction")
	}
	addr, _ := isa.Reads(w.cpu, i)
	f, e := isa.Execute(w.cpu, i, w.memory[addr])
	if e != api.OK {
		w.fail("the instruction is not executed")
	}
	if i.Op == api.InstCall {
		w.now().call, w.now().sp = pc, w.cpu.R[api.SP]
	}
	if f.Stores {
		w.memory[f.Addr] = f.Word
	}
	if f.Prints {
		w.out.Output = append(w.out.Output, f.Print)
	}
	w.cpu = f.Cpu
	switch i.Op {
	case api.InstCall, api.InstJump:
		w.onward(pc)
	case api.InstReturn:
		w.back()
	}
}

// onward is called when a Call or Jump has been executed.
func (w *walker) onward(pc int) {
	a := w.now()
	t := w.term(a)
	args := []int{}
	for _, v := range t.Args {
		args = append(args, a.values[v])
	}
	switch {
	case t.Kind == api.TermJump, t.Kind == api.TermBranch && a.values[t.A] != 0:
		a.follow(t.To[0])
	case t.Kind == api.TermBranch:
		a.follow(t.To[1])
	case t.Kind == api.TermTail:
		w.live = w.live[:len(w.live)-1]
		w.activate(t.N, args)
		w.now().tailed = true
		w.expectPassed(w.sites[pc], a, args)
	case a.call == pc:
		w.activate(t.N, args)
		w.expectOuter()
	case a.thrown:
		a.follow(t.To[1], a.result)
	default:
		a.follow(t.To[0], a.result)
	}
}

// back is called when a Return has been executed.
func (w *walker) back() {
	w.expectOuter()
	a := w.now()
	t := w.term(a)
	w.live = w.live[:len(w.live)-1]
	if len(w.live) == 0 {
		return
	}
	caller := w.now()
	switch t.Kind {
	case api.TermReturn, api.TermThrow:
		caller.result, caller.thrown = a.values[t.A], t.Kind == api.TermThrow
	default:
		caller.result, caller.thrown = a.result, a.thrown
	}
}

// row returns the row that is valid at an address of a function.
func (w *walker) row(f, addr int) api.Row {
	valid := api.Row{Stmt: -1}
	for _, r := range w.u.Funcs[f].Rows {
		if r.Addr <= addr {
			valid = r
		}
	}
	return valid
}

// event returns what the unit shows of all activations.
func (w *walker) event() api.Event {
	e := api.Event{}
	for i, a := range slices.Backward(w.live) {
		addr, sp, inner := a.call, a.sp, false
		if i == len(w.live)-1 {
			addr, sp, inner = w.cpu.PC, w.cpu.R[api.SP], true
		}
		row, contexts := w.row(a.f, addr), w.u.Funcs[a.f].Contexts
		if row.Stmt < 0 {
			e.Frames = append(e.Frames, api.Frame{Func: a.f, Stmt: -1})
			continue
		}
		for x, stmt := row.Ctx, row.Stmt; x >= 0; x, stmt = contexts[x].Parent, contexts[x].Stmt {
			frame := api.Frame{Func: contexts[x].Func, Stmt: stmt}
			for _, v := range checker.Visible(w.s, frame.Func, stmt) {
				frame.Vars = append(frame.Vars, w.variable(a, x, v, addr, sp, inner))
			}
			e.Frames = append(e.Frames, frame)
		}
	}
	return e
}

// variable returns what the unit shows of a variable of a context.
func (w *walker) variable(a *activation, ctx, v, addr, sp int, inner bool) api.Shown {
	info := w.s.Vars[w.u.Funcs[a.f].Contexts[ctx].Func][v]
	x := api.Shown{Var: v, Known: make([]bool, info.Words), Words: make([]int, info.Words)}
	if info.Kind == api.VarArray {
		for _, o := range w.u.Funcs[a.f].Objects {
			if o.Ctx == ctx && o.Var == v {
				for n := range copy(x.Words, w.memory[sp+o.Slot:sp+o.Slot+o.Words]) {
					x.Known[n] = true
				}
			}
		}
		return x
	}
	for _, r := range w.ranges[addr] {
		if r.Ctx != ctx || r.Var != v || r.Piece >= info.Words {
			continue
		}
		for _, p := range r.Places {
			if word, known := w.word(a, p, sp, inner); known {
				x.Words[r.Piece], x.Known[r.Piece] = word, true
				break
			}
		}
	}
	return x
}
