package dead

import (
	"iter"
	"slices"
)

// origins returns the parameter of the function that is the origin of each parameter that has one.
func (f flow) origins() map[value]int {
	handed, without := f.handed()
	next := func(p value) iter.Seq[value] { return slices.Values(handed[p]) }
	origins := map[value]int{}
	for k := range f.blocks[0].Params {
		first := func(yield func(value) bool) {
			for i := range f.blocks[0].Params {
				if i != k && !yield(value{0, i}) {
					return
				}
			}
			for _, p := range without {
				if !yield(p) {
					return
				}
			}
		}
		// All parameters may have the origin k but those to which something else comes. As a way of edges leads to every block, none has two origins.
		others := closed(first, next)
		for p := range f.parameters() {
			if !others[p] {
				origins[p] = k
			}
		}
	}
	return origins
}

// handed returns the parameters for which each parameter is an argument, itself or copied, and those that something else is an argument for, or that a call gives.
func (f flow) handed() (map[value][]value, []value) {
	handed, without := map[value][]value{}, []value{}
	for p := range f.parameters() {
		if f.received(p) {
			without = append(without, p)
		}
		for a := range f.arguments(p) {
			a = f.original(a)
			if _, defined := f.definitions[a]; defined {
				without = append(without, p)
			} else {
				handed[a] = append(handed[a], p)
			}
		}
	}
	return handed, without
}
