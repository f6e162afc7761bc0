package emit

import (
	"cmp"
	"maps"
	"slices"

	"debugger/api"
)

// knowledge is which values lie in which registers and slots.
type knowledge struct {
	held map[api.Place]int   // the value in each place
	lies map[int][]api.Place // the places of each value, in the order of a range
}

// knowing returns the knowledge that the first values of a block lie in some places.
func knowing(places []api.Place) knowledge {
	k := knowledge{map[api.Place]int{}, map[int][]api.Place{}}
	for v, p := range places {
		k.put(p, v)
	}
	return k
}

// copied returns a copy that shares no memory.
func (k knowledge) copied() knowledge {
	other := knowledge{maps.Clone(k.held), map[int][]api.Place{}}
	for v, places := range k.lies {
		other.lies[v] = slices.Clone(places)
	}
	return other
}

// slotsFirst compares places by their order in a range.
func slotsFirst(a, b api.Place) int {
	return cmp.Or(cmp.Compare(b.Kind, a.Kind), cmp.Compare(a.N, b.N))
}

// counts tells whether it is known what lies in a place: R0 and R15 pass on what is on its way.
func counts(p api.Place) bool {
	return p.Kind == api.PlaceSlot || p.N >= api.FirstArg && p.N <= api.LastValue
}

// put notes that a value lies in a place.
func (k knowledge) put(p api.Place, v int) {
	if !counts(p) {
		return
	}
	k.remove(p)
	k.held[p] = v
	i, _ := slices.BinarySearchFunc(k.lies[v], p, slotsFirst)
	k.lies[v] = slices.Insert(k.lies[v], i, p)
}

// remove notes that it is not known what lies in a place.
func (k knowledge) remove(p api.Place) {
	v, has := k.held[p]
	if !has {
		return
	}
	delete(k.held, p)
	i, _ := slices.BinarySearchFunc(k.lies[v], p, slotsFirst)
	k.lies[v] = slices.Delete(k.lies[v], i, i+1)
}

// removeAll does the same for all places of some kinds.
func (k knowledge) removeAll(kinds ...int) {
	for p := range k.held {
		if slices.Contains(kinds, p.Kind) {
			k.remove(p)
		}
	}
}

// overwrite notes what an instruction overwrites.
func (k knowledge) overwrite(i api.Inst) {
	switch {
	case i.Op == api.InstAddImm: // moves SP, and with it all slots
		k.removeAll(api.PlaceReg, api.PlaceSlot)
	case i.Op == api.InstCall:
		k.removeAll(api.PlaceReg)
	case i.Op == api.InstStore && i.B == api.SP:
		k.remove(slot(i.Imm))
	case i.Op >= api.InstConst && i.Op <= api.InstLoad:
		k.remove(register(i.A))
	}
}
