package ir

import (
	"slices"

	"debugger/api"
	"debugger/checker"
)

// piece is a piece of a variable of a context.
type piece struct{ ctx, variable, number int }

// event returns the frames of all activations as they are now.
func (r *run) event() api.Event {
	frames := []api.Frame{}
	for _, a := range slices.Backward(r.live) {
		frames = append(frames, r.frames(a)...)
	}
	return api.Event{Frames: frames}
}

// frames returns the frames of an activation: that of the context that is executed, and those of its parents.
func (r *run) frames(a *activation) []api.Frame {
	if a.latest < 0 {
		return []api.Frame{{Func: a.Contexts[0].Func, Stmt: -1}}
	}
	list, bindings := []api.Frame{}, a.bindings()
	ctx, stmt := a.here.Ops[a.latest].Ctx, a.here.Ops[a.latest].N
	for ctx >= 0 {
		list = append(list, r.frame(a, bindings, ctx, stmt))
		ctx, stmt = a.Contexts[ctx].Parent, a.Contexts[ctx].Stmt
	}
	return list
}

// bindings returns what each piece is bound to.
func (a *activation) bindings() map[piece]api.Src {
	bindings := map[piece]api.Src{}
	for _, o := range a.here.Ops[:a.latest] {
		if o.Kind == api.OpBind {
			bindings[piece{o.Ctx, o.Var, o.Piece}] = o.Src
		}
	}
	return bindings
}

func (r *run) frame(a *activation, bindings map[piece]api.Src, ctx, stmt int) api.Frame {
	f := a.Contexts[ctx].Func
	vars := []api.Shown{}
	for _, v := range checker.Visible(r.source, f, stmt) {
		info := r.source.Vars[f][v]
		// No variable of a checked source has other numbers of words; for those of another one there may be no room.
		size := min(max(info.Words, 0), api.MaxLen)
		shown := api.Shown{Var: v, Known: make([]bool, size), Words: make([]int, size)}
		if info.Kind == api.VarArray {
			a.showArray(shown, array{ctx, v})
		} else {
			for i := range size {
				shown.Words[i], shown.Known[i] = a.bound(bindings[piece{ctx, v, i}])
			}
		}
		vars = append(vars, shown)
	}
	return api.Frame{Func: f, Stmt: stmt, Vars: vars}
}

// showArray fills in the words of an array as far as there is an object for them.
func (a *activation) showArray(shown api.Shown, of array) {
	for i, o := range a.Objects {
		if of != (array{o.Ctx, o.Var}) {
			continue
		}
		for at := range copy(shown.Words, a.objects[i]) {
			shown.Known[at] = true
		}
	}
}
