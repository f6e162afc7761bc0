package ir

import (
	"debugger/api"
	"debugger/arithmetic"
	"debugger/operation"
)

// mostEvents is how many events one call of Trace returns.
const mostEvents = 100

// mostBlocks is how many blocks may be entered from one event to the next.
const mostBlocks = 5000

// run is a run of a function.
type run struct {
	source   api.Source
	funcs    []function
	steps    int // how many events may happen
	happened int // how many have happened
	from     int // the first event that is kept
	most     int // how many are kept
	entered  int // blocks since the latest event
	events   []api.Event
	live     []*activation // the innermost one last
	passed   []int         // the parameters of the block that is being entered
	over     bool
	outcome  api.Outcome
}

// function is the code of a function, ready to be run.
type function struct {
	api.Code
	blocks []block
	room   int // how many values an activation keeps
}

func prepare(c api.Code) function {
	f := function{Code: c}
	for _, b := range c.Blocks {
		f.blocks = append(f.blocks, open(b))
		f.room = max(f.room, b.Params)
		for _, o := range b.Ops {
			f.room = max(f.room, o.Dst+1)
		}
	}
	return f
}

// now returns the innermost activation.
func (r *run) now() *activation { return r.live[len(r.live)-1] }

// leave ends the innermost activation and tells whether there is one that called it.
func (r *run) leave() bool {
	r.live = r.live[:len(r.live)-1]
	return len(r.live) > 0
}

// activate begins an activation of a function.
func (r *run) activate(f int, args []int) {
	r.live = append(r.live, begin(&r.funcs[f], args))
	r.enter(api.Edge{Block: 0}, args...)
}

// enter follows an edge of the innermost activation; the first parameters are not the edge's.
func (r *run) enter(e api.Edge, first ...int) {
	if r.entered == mostBlocks {
		r.fail(api.ErrFuel)
		return
	}
	r.entered++
	a := r.now()
	// A parameter may be an argument, too: all are read before one is written.
	r.passed = append(r.passed[:0], first...)
	for _, v := range e.Args {
		r.passed = append(r.passed, a.values[v])
	}
	copy(a.values, r.passed)
	a.here, a.next, a.latest = &a.blocks[e.Block], 0, -1
}

// fail ends the run with an error.
func (r *run) fail(e api.Errno) { r.over, r.outcome.Err = true, e }

// operations executes the operations of a block that has been entered and tells whether the terminator follows.
func (r *run) operations() bool {
	a := r.now()
	for ; a.next < len(a.here.Ops); a.next++ {
		if !r.execute(a, &a.here.Ops[a.next]) {
			return false
		}
	}
	return true
}

// execute executes an operation and tells whether the run goes on.
func (r *run) execute(a *activation, o *api.Op) bool {
	switch o.Kind {
	case api.OpConst:
		a.values[o.Dst] = o.N
	case api.OpCopy:
		a.values[o.Dst] = a.values[o.A]
	case api.OpLoad:
		a.values[o.Dst] = a.load(o.N, a.values[o.A])
	case api.OpStore:
		a.store(o.N, a.values[o.A], a.values[o.B])
	case api.OpZero:
		clear(a.objects[o.N])
	case api.OpPrint:
		r.outcome.Output = append(r.outcome.Output, a.values[o.A])
	case api.OpMark:
		return r.mark(a)
	case api.OpAt:
		a.latest = a.next
	case api.OpBind:
		// The next Mark or At looks back at it.
	default:
		a.values[o.Dst] = arithmetic.Value(operation.Operator(o.Kind), a.values[o.A], a.values[o.B])
	}
	return true
}

// mark lets the event of a Mark happen and tells whether the run goes on.
func (r *run) mark(a *activation) bool {
	if r.happened == r.steps {
		r.fail(api.ErrFuel)
		return false
	}
	a.latest = a.next
	if r.happened >= r.from && r.happened-r.from < r.most {
		r.events = append(r.events, r.event())
	}
	r.happened++
	r.entered = 0
	return true
}

// terminator executes the terminator of a block whose operations have been executed.
func (r *run) terminator() {
	a := r.now()
	t := a.here.Term
	switch t.Kind {
	case api.TermJump:
		r.enter(t.To[0])
	case api.TermBranch:
		if a.values[t.A] != 0 {
			r.enter(t.To[0])
		} else {
			r.enter(t.To[1])
		}
	case api.TermCall:
		if len(r.live) == api.MaxCalls {
			r.fail(api.ErrLimit)
			return
		}
		r.activate(t.N, a.picked(t.Args))
	case api.TermReturn:
		r.finish(a.values[t.A])
	case api.TermThrow:
		r.throw(a.values[t.A])
	case api.TermTail:
		r.leave()
		r.activate(t.N, a.picked(t.Args))
	}
}

// finish ends the innermost activation with a result.
func (r *run) finish(result int) {
	if r.leave() {
		r.enter(r.now().here.Term.To[0], result)
		return
	}
	r.over, r.outcome.Value = true, result
}

// throw ends activations up to a call with a second edge.
func (r *run) throw(value int) {
	for r.leave() {
		if handler := r.now().here.Term.To[1]; handler.Block >= 0 {
			r.enter(handler, value)
			return
		}
	}
	r.over, r.outcome.Thrown, r.outcome.Value = true, true, value
}
