package passes

import (
	"slices"

	"debugger/api"
)

// EqualModules tells whether two modules are the same; nil and empty slices are.
func EqualModules(a, b api.Module) bool { return slices.EqualFunc(a.Funcs, b.Funcs, Equal) }

// Equal tells whether two codes are the same; nil and empty slices are.
func Equal(a, b api.Code) bool {
	return a.Params == b.Params && slices.EqualFunc(a.Blocks, b.Blocks, equalBlocks) &&
		slices.Equal(a.Contexts, b.Contexts) && slices.Equal(a.Objects, b.Objects)
}

func equalBlocks(a, b api.Block) bool {
	return a.Params == b.Params && slices.Equal(a.Ops, b.Ops) && equalTerms(a.Term, b.Term)
}

func equalTerms(a, b api.Term) bool {
	return a.Kind == b.Kind && a.A == b.A && a.N == b.N && slices.Equal(a.Args, b.Args) &&
		equalEdges(a.To[0], b.To[0]) && equalEdges(a.To[1], b.To[1])
}

func equalEdges(a, b api.Edge) bool { return a.Block == b.Block && slices.Equal(a.Args, b.Args) }

// EqualEvents tells whether two lists of events are the same.
func EqualEvents(a, b []api.Event) bool { return slices.EqualFunc(a, b, equalEvents) }

func equalEvents(a, b api.Event) bool { return slices.EqualFunc(a.Frames, b.Frames, equalFrames) }

func equalFrames(a, b api.Frame) bool {
	return a.Func == b.Func && a.Stmt == b.Stmt && slices.EqualFunc(a.Vars, b.Vars, equalShown)
}

func equalShown(a, b api.Shown) bool {
	return a.Var == b.Var && slices.Equal(a.Known, b.Known) && slices.Equal(a.Words, b.Words)
}

// EqualOutcomes tells whether two outcomes are the same.
func EqualOutcomes(a, b api.Outcome) bool {
	return a.Err == b.Err && a.Thrown == b.Thrown && a.Value == b.Value && slices.Equal(a.Output, b.Output)
}
