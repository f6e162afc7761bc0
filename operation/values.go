package operation

import (
	"iter"

	"debugger/api"
)

// Values goes through the values that an operation uses as A and B; they may be replaced.
func Values(o *api.Op) iter.Seq[*int] {
	return func(yield func(*int) bool) {
		a, b := Uses(o.Kind)
		if a && !yield(&o.A) {
			return
		}
		if b {
			yield(&o.B)
		}
	}
}

// Ending goes through the values that a terminator itself uses: A and the Args; they may be replaced.
func Ending(t *api.Term) iter.Seq[*int] {
	return func(yield func(*int) bool) {
		if decides(t.Kind) && !yield(&t.A) {
			return
		}
		for i := range t.Args {
			if !yield(&t.Args[i]) {
				return
			}
		}
	}
}

// decides tells whether the terminators of a kind use the value A.
func decides(kind int) bool {
	return kind == api.TermBranch || kind == api.TermReturn || kind == api.TermThrow
}

// Edges goes through the edges of a terminator that lead to blocks; they may be changed.
func Edges(t *api.Term) iter.Seq[*api.Edge] {
	return func(yield func(*api.Edge) bool) {
		for i := range t.To {
			if e := &t.To[i]; e.Block >= 0 && !yield(e) {
				return
			}
		}
	}
}

// Leaving goes through the values that a terminator uses, itself and as the arguments of its edges; they may be replaced.
func Leaving(t *api.Term) iter.Seq[*int] {
	return func(yield func(*int) bool) {
		for v := range Ending(t) {
			if !yield(v) {
				return
			}
		}
		for e := range Edges(t) {
			for i := range e.Args {
				if !yield(&e.Args[i]) {
					return
				}
			}
		}
	}
}
