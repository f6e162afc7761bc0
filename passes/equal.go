package passes

import (
	"slices"

	"debugger/api"
)

// EqualModules tells whether two modules are the same; nil and empty slices are.
func EqualModules(a, b api.Module) bool { return slices.EqualFunc(a.Funcs, b.Funcs, Equal) }

// Equal tells whether two codes are the same; nil and empty slices are.
func Equal(a, b api.Code) bool {
	return a.Params == b.Params && slices.EqualFunc(a.Blocks, b.Blocks, equalBlocks) &&
		slices.Equal(a.Contexts, b.Contexts) && slices.Equal(a.Objects, b.Objects)
}

func equalBlocks(a, b api.Block) bool {
	return a.Params == b.Params && slices.Equal(a.Ops, b.Ops) && equalTerms(a.Term, b.Term)
}

func equalTerms(a, b api.Term) bool {
	return a.Kind == b.Kind && a.A == b.A && a.N == b.N && slices.Equal(a.Args, b.Args) &&
		equalEdges(a.To[0], b.To[0]) && equalEdges(a.To[1], b.To[1])
}

func equalEdges(a, b api.Edge) bool { return a.Block == b.Block && slices.Equal(a.Args, b.Args) }

// EqualEvents tells whether two lists of events are the same.
func EqualEvents(a, b []api.Event) bool { return alike(a, b, equalShown) }

// Within tells whether a list of events is another one but for words that it does not know.
func Within(got, all []api.Event) bool { return alike(got, all, withinShown) }

// Agree tells whether two lists of events are the same but for words that one of them does not know.
func Agree(a, b []api.Event) bool { return alike(a, b, agreeingShown) }

// alike tells whether two lists of events have the same frames with variables that are alike.
func alike(a, b []api.Event, variables func(a, b api.Shown) bool) bool {
	frames := func(a, b api.Frame) bool {
		return a.Func == b.Func && a.Stmt == b.Stmt && slices.EqualFunc(a.Vars, b.Vars, variables)
	}
	return slices.EqualFunc(a, b, func(a, b api.Event) bool { return slices.EqualFunc(a.Frames, b.Frames, frames) })
}

func equalShown(a, b api.Shown) bool {
	return a.Var == b.Var && slices.Equal(a.Known, b.Known) && slices.Equal(a.Words, b.Words)
}

func withinShown(got, all api.Shown) bool {
	if !agreeingShown(got, all) {
		return false
	}
	for i, known := range got.Known {
		if known && !all.Known[i] {
			return false
		}
	}
	return true
}

func agreeingShown(a, b api.Shown) bool {
	if a.Var != b.Var || len(a.Words) != len(b.Words) {
		return false
	}
	for i := range a.Words {
		if a.Known[i] && b.Known[i] && a.Words[i] != b.Words[i] {
			return false
		}
	}
	return true
}

// Words returns how many words are known in some events.
func Words(events []api.Event) int {
	count := 0
	for _, e := range events {
		for _, f := range e.Frames {
			for _, v := range f.Vars {
				for _, known := range v.Known {
					if known {
						count++
					}
				}
			}
		}
	}
	return count
}

// EqualOutcomes tells whether two outcomes are the same.
func EqualOutcomes(a, b api.Outcome) bool {
	return a.Err == b.Err && a.Thrown == b.Thrown && a.Value == b.Value && slices.Equal(a.Output, b.Output)
}
