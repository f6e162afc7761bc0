package emit

import (
	"cmp"
	"slices"

	"debugger/api"
)

// piece is a piece of a variable of a context.
type piece struct{ ctx, variable, number int }

// show lets the ranges agree with what is known ahead of the next instruction.
func (f *function) show() {
	for p := range f.open {
		if _, is := f.current[p]; !is {
			f.endRange(p)
		}
	}
	for p, s := range f.current {
		places := f.found(s)
		if i, is := f.open[p]; is && slices.Equal(f.Ranges[i].Places, places) {
			continue
		}
		f.endRange(p)
		if len(places) > 0 {
			f.beginRange(p, places)
		}
	}
}

// found returns the places at which a piece is found now.
func (f *function) found(s api.Src) []api.Place {
	list := []api.Place{}
	add := func(kind, n int) { list = append(list, api.Place{Kind: kind, N: n, Add: s.Add}) }
	switch {
	case s.Kind == api.SrcConstant:
		add(api.PlaceConst, 0)
	case s.Kind == api.SrcEntry && f.entries:
		add(api.PlaceEntry, api.FirstArg+s.Val)
	case s.Kind == api.SrcValue:
		for _, p := range f.lies[s.Val] {
			add(p.Kind, p.N)
		}
		if s.Val < f.passed {
			add(api.PlaceEntry, api.FirstArg+s.Val)
		}
	}
	return list
}

func (f *function) beginRange(p piece, places []api.Place) {
	f.open[p] = len(f.Ranges)
	f.Ranges = append(f.Ranges, api.Range{Ctx: p.ctx, Var: p.variable, Piece: p.number, Lo: f.here(), Places: places})
	f.allRanges++
}

// endRange ends the range of a piece, if one goes on.
func (f *function) endRange(p piece) {
	if i, is := f.open[p]; is {
		f.Ranges[i].Hi = f.here()
		delete(f.open, p)
	}
}

// endRanges ends all ranges, and puts them in their order.
func (f *function) endRanges() {
	f.current = nil
	f.show()
	slices.SortFunc(f.Ranges, func(a, b api.Range) int {
		return cmp.Or(cmp.Compare(a.Lo, b.Lo), cmp.Compare(a.Ctx, b.Ctx), cmp.Compare(a.Var, b.Var), cmp.Compare(a.Piece, b.Piece))
	})
}
