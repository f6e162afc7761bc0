package ir

import (
	"maps"

	"debugger/api"
)

// The second implementation of CheckCode: it collects what is there and asks for each condition on its own.

// refused tells whether a code within the limits has a bad form.
func refused(c api.Code) bool {
	if len(c.Blocks) == 0 || len(c.Contexts) == 0 || c.Params < 0 || c.Params > 4 || c.Blocks[0].Params != c.Params {
		return true
	}
	for i, x := range c.Contexts {
		if x.Func < 0 || x.Func > 7 || i == 0 && (x.Parent != -1 || x.Stmt != -1) || i > 0 && (x.Parent < 0 || x.Parent >= i || x.Stmt < 0 || x.Stmt > 9999) {
			return true
		}
	}
	for i, o := range c.Objects {
		if o.Ctx < 0 || o.Ctx >= len(c.Contexts) || o.Var < 0 || o.Var > 23 || o.Words < 1 || o.Words > 8 {
			return true
		}
		for _, other := range c.Objects[:i] {
			if other.Ctx == o.Ctx && other.Var == o.Var {
				return true
			}
		}
	}
	for _, b := range c.Blocks {
		if b.Params < 0 || b.Params > 999 {
			return true
		}
	}
	for _, b := range c.Blocks {
		if refusedBlock(c, b) {
			return true
		}
	}
	return false
}

func refusedBlock(c api.Code, b api.Block) bool {
	values := map[int]bool{}
	for i := range b.Params {
		values[i] = true
	}
	later := []int{}
	for _, o := range b.Ops {
		o, wrong := o, false
		need := func(field *int, most int) {
			wrong = wrong || *field < 0 || *field > most
			*field = 0
		}
		use := func(field *int) {
			wrong = wrong || !values[*field]
			*field = 0
		}
		define := 0
		switch k := o.Kind; {
		case k == api.OpConst:
			o.N, define = 0, 1
		case k == api.OpCopy:
			use(&o.A)
			define = 1
		case k >= api.OpAdd && k <= api.OpNotEqual:
			use(&o.A)
			use(&o.B)
			define = 1
		case k == api.OpLoad:
			use(&o.A)
			need(&o.N, len(c.Objects)-1)
			define = 1
		case k == api.OpStore:
			use(&o.A)
			use(&o.B)
			need(&o.N, len(c.Objects)-1)
		case k == api.OpZero:
			need(&o.N, len(c.Objects)-1)
		case k == api.OpPrint:
			use(&o.A)
		case k == api.OpMark || k == api.OpAt:
			need(&o.N, 9999)
			need(&o.Ctx, len(c.Contexts)-1)
		case k == api.OpBind:
			need(&o.Ctx, len(c.Contexts)-1)
			need(&o.Var, 23)
			need(&o.Piece, 3)
			switch o.Src.Kind {
			case api.SrcConstant:
				o.Src.Add = 0
			case api.SrcValue:
				later = append(later, o.Src.Val)
				o.Src.Val, o.Src.Add = 0, 0
			case api.SrcEntry:
				need(&o.Src.Val, c.Params-1)
				o.Src.Add = 0
			}
			need(&o.Src.Kind, 3)
		default:
			return true
		}
		if define == 1 {
			wrong = wrong || values[o.Dst]
			values[o.Dst] = true
			need(&o.Dst, 9999)
		}
		o.Kind = 0
		if wrong || o != (api.Op{}) {
			return true
		}
	}
	return refusedEnd(c, b.Term, append(later, b.Term.Args...), values)
}

// refusedEnd checks a terminator, and the values that have to be there at the end of the block.
func refusedEnd(c api.Code, x api.Term, used []int, values map[int]bool) bool {
	wrong := false
	// The fields that are used, as letters: "a" for A, "c" for the callee and its arguments; then the arguments that each edge gets from elsewhere.
	form, ok := map[int]struct {
		a, call bool
		edges   []int
		may     bool // be without the second one
	}{
		api.TermJump:   {edges: []int{0}},
		api.TermBranch: {a: true, edges: []int{0, 0}},
		api.TermCall:   {call: true, edges: []int{1, 1}, may: true},
		api.TermReturn: {a: true},
		api.TermThrow:  {a: true},
		api.TermTail:   {call: true},
	}[x.Kind]
	if form.a {
		used = append(used, x.A)
	} else {
		wrong = x.A != 0
	}
	if form.call {
		wrong = wrong || x.N < 0 || x.N > 7 || len(x.Args) > 4
	} else {
		wrong = wrong || x.N != 0 || len(x.Args) > 0
	}
	for i, e := range x.To {
		if e.Block == -1 && len(e.Args) == 0 && (i >= len(form.edges) || i == 1 && form.may) {
			continue
		}
		if i >= len(form.edges) || e.Block <= 0 || e.Block >= len(c.Blocks) || len(e.Args)+form.edges[i] != c.Blocks[e.Block].Params {
			return true
		}
		used = append(used, e.Args...)
	}
	for _, v := range used {
		wrong = wrong || !values[v]
	}
	return wrong || !ok
}

// The second implementation of Trace: calls of the debugged program are calls of Go, and everything is written down as it happens.

// ended is the panic that ends a run of the second implementation.
type ended struct{ e api.Errno }

type machine struct {
	s           api.Source
	m           api.Module
	left, blank int // Marks that may still be executed, and blocks that may still be entered
	events      []api.Event
	output      []int
	stack       []*record
}

// record is an activation: what is bound now, what will be at the next Mark or At, and the position (without one, ctx is -1).
type record struct {
	code          api.Code
	entry         []int
	values        map[int]int
	bound, coming map[[3]int]api.Src
	ctx, stmt     int
	objects       map[[2]int][]int
}

// simulate runs a function and returns all events.
func simulate(s api.Source, m api.Module, f int, args []int, steps int) (events []api.Event, o api.Outcome) {
	x := &machine{s: s, m: m, left: steps, blank: 5000}
	defer func() {
		switch end := recover().(type) {
		case nil:
		case ended:
			o = api.Outcome{Err: end.e}
		default:
			panic(end)
		}
		events, o.Output = x.events, x.output
	}()
	o.Value, o.Thrown = x.call(f, args)
	return
}

// call activates a function and returns its result, or the value that it throws.
func (x *machine) call(f int, args []int) (int, bool) {
	if len(x.stack) >= 20 {
		panic(ended{api.ErrLimit})
	}
	depth := len(x.stack)
	x.stack = append(x.stack, nil)
	for {
		c := x.m.Funcs[f]
		a := &record{code: c, entry: args, objects: map[[2]int][]int{}}
		for _, o := range c.Objects {
			a.objects[[2]int{o.Ctx, o.Var}] = make([]int, o.Words)
		}
		x.stack[depth] = a
		end, words := x.body(a, args)
		if end.Kind == api.TermTail {
			f, args = end.N, words
			continue
		}
		x.stack = x.stack[:depth]
		return words[0], end.Kind == api.TermThrow
	}
}

// body executes an activation's blocks up to a terminator without a next one, and returns its values.
func (x *machine) body(a *record, args []int) (api.Term, []int) {
	at := 0
	for {
		if x.blank == 0 {
			panic(ended{api.ErrFuel})
		}
		x.blank--
		b := a.code.Blocks[at]
		a.values, a.bound, a.coming, a.ctx = map[int]int{}, nil, map[[3]int]api.Src{}, -1
		for i := range b.Params {
			a.values[i] = args[i]
		}
		for _, o := range b.Ops {
			x.operation(a, o)
		}
		t, next := b.Term, 0
		words := func(values []int) []int {
			list := []int{}
			for _, v := range values {
				list = append(list, a.values[v])
			}
			return list
		}
		first := []int{}
		switch t.Kind {
		case api.TermReturn, api.TermThrow:
			return t, []int{a.values[t.A]}
		case api.TermTail:
			return t, words(t.Args)
		case api.TermBranch:
			next = number(a.values[t.A] == 0)
		case api.TermCall:
			result, thrown := x.call(t.N, words(t.Args))
			if thrown && t.To[1].Block < 0 {
				return api.Term{Kind: api.TermThrow}, []int{result}
			}
			first, next = []int{result}, number(thrown)
		}
		at, args = t.To[next].Block, append(first, words(t.To[next].Args)...)
	}
}

func (x *machine) operation(a *record, o api.Op) {
	object := []int{}
	if o.Kind == api.OpLoad || o.Kind == api.OpStore || o.Kind == api.OpZero {
		info := a.code.Objects[o.N]
		object = a.objects[[2]int{info.Ctx, info.Var}]
	}
	inside := a.values[o.A] >= 0 && a.values[o.A] < len(object)
	switch {
	case o.Kind == api.OpConst:
		a.values[o.Dst] = o.N
	case o.Kind == api.OpCopy:
		a.values[o.Dst] = a.values[o.A]
	case o.Kind == api.OpLoad && inside:
		a.values[o.Dst] = object[a.values[o.A]]
	case o.Kind == api.OpLoad:
		a.values[o.Dst] = 0
	case o.Kind == api.OpStore && inside:
		object[a.values[o.A]] = a.values[o.B]
	case o.Kind == api.OpZero:
		clear(object)
	case o.Kind == api.OpPrint:
		x.output = append(x.output, a.values[o.A])
	case o.Kind == api.OpBind:
		a.coming[[3]int{o.Ctx, o.Var, o.Piece}] = o.Src
	case o.Kind == api.OpMark && x.left == 0:
		panic(ended{api.ErrFuel})
	case o.Kind == api.OpMark || o.Kind == api.OpAt:
		a.ctx, a.stmt, a.bound = o.Ctx, o.N, maps.Clone(a.coming)
		if o.Kind == api.OpMark {
			x.left, x.blank = x.left-1, 5000
			x.events = append(x.events, x.show())
		}
	case o.Kind >= api.OpAdd && o.Kind <= api.OpNotEqual:
		a.values[o.Dst] = exact(signs[o.Kind-api.OpAdd], a.values[o.A], a.values[o.B])
	}
}

// show returns the frames of all activations.
func (x *machine) show() api.Event {
	e := api.Event{}
	for i := len(x.stack) - 1; i >= 0; i-- {
		a := x.stack[i]
		if a.ctx < 0 {
			e.Frames = append(e.Frames, api.Frame{Func: a.code.Contexts[0].Func, Stmt: -1})
			continue
		}
		stmt := a.stmt
		for ctx := a.ctx; ctx >= 0; ctx = a.code.Contexts[ctx].Parent {
			e.Frames = append(e.Frames, x.showFrame(a, ctx, stmt))
			stmt = a.code.Contexts[ctx].Stmt
		}
	}
	return e
}

func (x *machine) showFrame(a *record, ctx, stmt int) api.Frame {
	frame := api.Frame{Func: a.code.Contexts[ctx].Func, Stmt: stmt}
	if frame.Func >= len(x.s.Vars) {
		return frame
	}
	for v, info := range x.s.Vars[frame.Func] {
		if stmt < info.From || stmt > info.To {
			continue
		}
		shown := api.Shown{Var: v}
		for i := range info.Words {
			word, known := 0, false
			src := a.bound[[3]int{ctx, v, i}]
			switch {
			case info.Kind == api.VarArray:
				if known = i < len(a.objects[[2]int{ctx, v}]); known {
					word = a.objects[[2]int{ctx, v}][i]
				}
			case src.Kind == api.SrcConstant:
				word, known = src.Add, true
			case src.Kind == api.SrcEntry:
				word, known = a.entry[src.Val]+src.Add, true
			case src.Kind == api.SrcValue:
				if word, known = a.values[src.Val]; known {
					word += src.Add
				}
			}
			shown.Words, shown.Known = append(shown.Words, word), append(shown.Known, known)
		}
		frame.Vars = append(frame.Vars, shown)
	}
	return frame
}
