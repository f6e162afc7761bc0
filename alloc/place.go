package alloc

import (
	"slices"

	"debugger/api"
	"debugger/operation"
)

// allocate returns the places of a block's values, by their numbers, and how many spill slots they need behind so many parameter slots.
func allocate(b api.Block, keep bool, params int) ([]api.Place, int) {
	last := lastUses(b, keep)
	places := make([]api.Place, len(last))
	until := make([]int, api.LastValue) // where each register, and each spill slot behind them, becomes free
	for v := range b.Params {
		places[v] = parameter(v)
		if v < api.InRegs {
			until[v] = last[v]
		}
	}
	for k, o := range b.Ops {
		if !operation.Defines(o.Kind) {
			continue
		}
		i := slices.IndexFunc(until, func(use int) bool { return use <= k })
		if i < 0 {
			i = len(until)
			until = append(until, 0)
		}
		until[i] = last[o.Dst]
		places[o.Dst] = place(i, params)
	}
	return places, len(until) - api.LastValue
}

// parameter returns the place of a parameter.
func parameter(v int) api.Place {
	if v < api.InRegs {
		return api.Place{Kind: api.PlaceReg, N: api.FirstArg + v}
	}
	return api.Place{Kind: api.PlaceSlot, N: v - api.InRegs}
}

// place returns a register from 1 to api.LastValue, by its index, or a spill slot behind these and the parameter slots.
func place(i, params int) api.Place {
	if i < api.LastValue {
		return api.Place{Kind: api.PlaceReg, N: 1 + i}
	}
	return api.Place{Kind: api.PlaceSlot, N: params + i - api.LastValue}
}
