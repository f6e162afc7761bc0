package emit

import (
	"slices"

	"debugger/api"
)

func register(n int) api.Place { return api.Place{Kind: api.PlaceReg, N: n} }

func slot(n int) api.Place { return api.Place{Kind: api.PlaceSlot, N: n} }

// loading returns the instruction that loads a slot into a register.
func loading(r, slot int) api.Inst {
	return api.Inst{Op: api.InstLoad, A: r, B: api.SP, Imm: slot}
}

// storing returns the instruction that stores a register into a slot.
func storing(r, slot int) api.Inst {
	return api.Inst{Op: api.InstStore, A: r, B: api.SP, Imm: slot}
}

func moving(to, from int) api.Inst { return api.Inst{Op: api.InstMove, A: to, B: from} }

// constant writes the instruction by which a register becomes a constant.
func (f *function) constant(r, n int) {
	if n == int(int32(n)) {
		f.write(api.Inst{Op: api.InstConst, A: r, Imm: n})
		return
	}
	u, number := f.unit, f.inPool(n)
	f.writeTo(api.Inst{Op: api.InstPool, A: r}, func() int { return len(u.code) + number })
}

// transfer writes the instructions that bring what is in a place into another one.
func (f *function) transfer(from, to api.Place) {
	if from == to {
		return
	}
	v, known := f.held[from]
	switch {
	case from.Kind == api.PlaceReg && to.Kind == api.PlaceReg:
		f.write(moving(to.N, from.N))
	case to.Kind == api.PlaceReg:
		f.write(loading(to.N, from.N))
	case from.Kind == api.PlaceReg:
		f.write(storing(from.N, to.N))
	default:
		f.write(loading(api.Scratch, from.N))
		f.write(storing(api.Scratch, to.N))
	}
	if known {
		f.put(to, v)
	}
}

// move is a transfer that happens at once with others.
type move struct{ from, to api.Place }

// parallel writes transfers that happen at once.
func (f *function) parallel(list []move) {
	list = slices.DeleteFunc(list, func(m move) bool { return m.from == m.to })
	waiting := map[api.Place]int{} // how many of the moves are to read each place
	for _, m := range list {
		waiting[m.from]++
	}
	for len(list) > 0 {
		i := slices.IndexFunc(list, func(m move) bool { return waiting[m.to] == 0 })
		if i < 0 {
			f.breakRing(list, waiting)
			continue
		}
		f.transfer(list[i].from, list[i].to)
		waiting[list[i].from]--
		list = slices.Delete(list, i, i+1)
	}
}

// breakRing makes the target of the first move free: those that are to read it read R0 instead.
func (f *function) breakRing(list []move, waiting map[api.Place]int) {
	from, free := list[0].to, register(api.Result)
	f.transfer(from, free)
	for i := range list {
		if list[i].from == from {
			list[i].from = free
		}
	}
	waiting[free], waiting[from] = waiting[from], 0
}
