package alloc

import (
	"slices"

	"debugger/api"
)

// reckon returns the layout of a sound code, word by word as the document says it.
func reckon(c api.Code, keep bool) api.Layout {
	l := api.Layout{}
	params := 0
	for _, b := range c.Blocks {
		for v := range b.Params {
			if v >= 8 {
				params = max(params, v-8+1)
			}
		}
	}
	spills := 0
	for _, b := range c.Blocks {
		places, highest := reckonBlock(b, keep)
		for i, p := range places {
			if p.Kind == spill {
				places[i] = api.Place{Kind: api.PlaceSlot, N: params + p.N}
			}
		}
		l.Places = append(l.Places, places)
		spills = max(spills, highest+1)
		l.Saves = max(l.Saves, len(reckonSaved(b)))
	}
	l.Slots = params + spills
	l.Size = params + spills + l.Saves
	for _, o := range c.Objects {
		l.Objects = append(l.Objects, l.Size)
		l.Size += o.Words
	}
	return l
}

// spill is the kind of a place in a spill slot that is numbered among these.
const spill = -1

// value is a value of a block: where it is defined, or -1 for a parameter.
type value struct{ number, at int }

// valuesOf returns the values of a block.
func valuesOf(b api.Block) []value {
	list := []value{}
	for v := range b.Params {
		list = append(list, value{v, -1})
	}
	for k, o := range b.Ops {
		if o.Kind >= api.OpConst && o.Kind <= api.OpLoad {
			list = append(list, value{o.Dst, k})
		}
	}
	return list
}

// reckonBlock returns the places of a block's values, and the highest spill slot that is used, or -1.
func reckonBlock(b api.Block, keep bool) ([]api.Place, int) {
	list := valuesOf(b)
	length, highest := 0, -1
	for _, v := range list {
		length = max(length, v.number+1)
	}
	places, ends := make([]api.Place, length), map[int]int{}
	for _, v := range list {
		ends[v.number] = lastUse(b, keep, v)
	}
	for i, v := range list {
		if v.at < 0 && v.number < 8 {
			places[v.number] = api.Place{Kind: api.PlaceReg, N: 1 + v.number}
			continue
		}
		if v.at < 0 {
			places[v.number] = api.Place{Kind: api.PlaceSlot, N: v.number - 8}
			continue
		}
		occupied := map[api.Place]bool{}
		for _, other := range list[:i] {
			if ends[other.number] > v.at {
				occupied[places[other.number]] = true
			}
		}
		places[v.number] = lowestFree(occupied)
		if places[v.number].Kind == spill {
			highest = max(highest, places[v.number].N)
		}
	}
	return places, highest
}

// lowestFree returns the lowest register that is not occupied, or the lowest spill slot.
func lowestFree(occupied map[api.Place]bool) api.Place {
	for n := 1; n <= 12; n++ {
		if p := (api.Place{Kind: api.PlaceReg, N: n}); !occupied[p] {
			return p
		}
	}
	n := 0
	for occupied[api.Place{Kind: spill, N: n}] {
		n++
	}
	return api.Place{Kind: spill, N: n}
}

// lastUse returns the index of the last use of a value, or of its definition.
func lastUse(b api.Block, keep bool, v value) int {
	if slices.Contains(endUses(b.Term), v.number) {
		return len(b.Ops)
	}
	for k := len(b.Ops) - 1; k >= 0; k-- {
		switch o := b.Ops[k]; o.Kind {
		case api.OpMark, api.OpAt:
			if keep && v.at < k && slices.Contains(latest(b.Ops[:k]), v.number) {
				return k
			}
		case api.OpBind, api.OpConst, api.OpZero:
		case api.OpCopy, api.OpLoad, api.OpPrint:
			if o.A == v.number {
				return k
			}
		default:
			if o.A == v.number || o.B == v.number {
				return k
			}
		}
	}
	return v.at
}

// endUses returns the values that a terminator uses.
func endUses(t api.Term) []int {
	list := []int{}
	if t.Kind == api.TermBranch || t.Kind == api.TermReturn || t.Kind == api.TermThrow {
		list = append(list, t.A)
	}
	list = append(list, t.Args...)
	for _, e := range t.To {
		if e.Block != -1 {
			list = append(list, e.Args...)
		}
	}
	return list
}

// latest returns the values to which pieces are bound behind some operations.
func latest(ops []api.Op) []int {
	list := []int{}
	for i, o := range ops {
		again := slices.ContainsFunc(ops[i+1:], func(x api.Op) bool {
			return x.Kind == api.OpBind && x.Ctx == o.Ctx && x.Var == o.Var && x.Piece == o.Piece
		})
		if o.Kind == api.OpBind && o.Src.Kind == api.SrcValue && !again {
			list = append(list, o.Src.Val)
		}
	}
	return list
}

// reckonSaved returns the values that a sound block saves.
func reckonSaved(b api.Block) []int {
	list := []int{}
	if b.Term.Kind != api.TermCall {
		return list
	}
	for _, e := range b.Term.To {
		for _, v := range e.Args {
			if e.Block >= 0 && !slices.Contains(list, v) {
				list = append(list, v)
			}
		}
	}
	return list
}
