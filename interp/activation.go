package interp

import (
	"slices"

	"debugger/api"
	"debugger/checker"
)

// activation is a call of a function that has not returned.
type activation struct {
	f     int
	stmt  int     // the statement that is executed
	words [][]int // of its variables
}

// now returns the innermost activation. The pointer is good until the next call.
func (r *run) now() *activation { return &r.live[len(r.live)-1] }

// call runs a function and returns its result.
func (r *run) call(f int, args []int) int {
	if len(r.live) == api.MaxCalls {
		panic(stop(api.ErrLimit))
	}
	r.live = append(r.live, activation{f: f, words: r.variables(f, args)})
	value, _ := r.block(r.source.Program.Funcs[f].Body)
	r.live = r.live[:len(r.live)-1]
	return value
}

// variables returns the words of a function's variables as its activation begins.
func (r *run) variables(f int, args []int) [][]int {
	words := make([][]int, len(r.source.Vars[f]))
	for v, info := range r.source.Vars[f] {
		// No variable of a checked source has more words; for those of another one there may be no room.
		words[v] = make([]int, min(info.Words, api.MaxLen))
	}
	for v, word := range args {
		words[v][0] = word
	}
	return words
}

// begin lets the event of a statement happen.
func (r *run) begin(stmt int) {
	if r.happened == r.steps {
		panic(stop(api.ErrFuel))
	}
	r.now().stmt = stmt
	if r.happened >= r.from && r.happened-r.from < r.most {
		r.events = append(r.events, r.event())
	}
	r.happened++
}

// event returns the frames of all activations as they are now.
func (r *run) event() api.Event {
	frames := []api.Frame{}
	for _, a := range slices.Backward(r.live) {
		frames = append(frames, r.frame(a))
	}
	return api.Event{Frames: frames}
}

func (r *run) frame(a activation) api.Frame {
	vars := []api.Shown{}
	for _, v := range checker.Visible(r.source, a.f, a.stmt) {
		words := slices.Clone(a.words[v])
		vars = append(vars, api.Shown{Var: v, Known: slices.Repeat([]bool{true}, len(words)), Words: words})
	}
	return api.Frame{Func: a.f, Stmt: a.stmt, Vars: vars}
}
