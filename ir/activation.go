package ir

import "debugger/api"

// activation is a call of a function that has not returned.
type activation struct {
	*function
	args    []int   // with which it was entered
	values  []int   // of the block that is executed, by number
	objects [][]int // the words of each
	here    *block  // that is executed
	next    int     // the operation that is executed next, in it
	latest  int     // the latest Mark or At that was executed in it; -1: none
}

func begin(f *function, args []int) *activation {
	a := &activation{function: f, args: args, values: make([]int, f.room)}
	for _, o := range f.Objects {
		a.objects = append(a.objects, make([]int, o.Words))
	}
	return a
}

// picked returns the words of values.
func (a *activation) picked(values []int) []int {
	words := make([]int, len(values))
	for i, v := range values {
		words[i] = a.values[v]
	}
	return words
}

func (a *activation) load(object, index int) int {
	if !within(index, 0, len(a.objects[object])-1) {
		return 0
	}
	return a.objects[object][index]
}

func (a *activation) store(object, index, word int) {
	if within(index, 0, len(a.objects[object])-1) {
		a.objects[object][index] = word
	}
}

// bound returns the word of what a piece is bound to, and whether it is known.
func (a *activation) bound(s api.Src) (int, bool) {
	switch {
	case s.Kind == api.SrcConstant:
		return s.Add, true
	case s.Kind == api.SrcValue && a.here.has(s.Val, a.next):
		return a.values[s.Val] + s.Add, true
	case s.Kind == api.SrcEntry:
		return a.args[s.Val] + s.Add, true
	}
	return 0, false
}
