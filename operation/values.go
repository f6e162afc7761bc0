package operation

import (
	"iter"

	"debugger/api"
)

// Values goes through the values that an operation uses as A and B; they may be replaced.
func Values(o *api.Op) iter.Seq[*int] {
	return func(yield func(*int) bool) {
		a, b := Uses(o.Kind)
		if a && !yield(&o.A) {
			return
		}
		if b {
			yield(&o.B)
		}
	}
}

// Leaving goes through the values that a terminator uses: A, the Args, and the arguments of both edges; they may be replaced.
func Leaving(t *api.Term) iter.Seq[*int] {
	return func(yield func(*int) bool) {
		if decides(t.Kind) && !yield(&t.A) {
			return
		}
		for _, list := range [][]int{t.Args, t.To[0].Args, t.To[1].Args} {
			for i := range list {
				if !yield(&list[i]) {
					return
				}
			}
		}
	}
}

// decides tells whether the terminators of a kind use the value A.
func decides(kind int) bool {
	return kind == api.TermBranch || kind == api.TermReturn || kind == api.TermThrow
}
