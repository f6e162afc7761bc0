package passes

import "debugger/api"

// Renamed returns an operation with other numbers of its values.
func Renamed(o api.Op, n func(int) int) api.Op {
	switch o.Kind {
	case api.OpConst:
		return api.Op{Kind: o.Kind, Dst: n(o.Dst), N: o.N}
	case api.OpCopy, api.OpLoad:
		return api.Op{Kind: o.Kind, Dst: n(o.Dst), A: n(o.A), N: o.N}
	case api.OpStore:
		return api.Op{Kind: o.Kind, A: n(o.A), B: n(o.B), N: o.N}
	case api.OpPrint:
		return api.Op{Kind: o.Kind, A: n(o.A)}
	case api.OpZero, api.OpMark, api.OpAt:
		return o
	case api.OpBind:
		if o.Src.Kind == api.SrcValue {
			o.Src.Val = n(o.Src.Val)
		}
		return o
	}
	return api.Op{Kind: o.Kind, Dst: n(o.Dst), A: n(o.A), B: n(o.B)}
}

// Ended returns a terminator with other numbers of its values and of the blocks that it leads to.
func Ended(t api.Term, n, block func(int) int) api.Term {
	list := func(args []int) []int {
		values := []int{}
		for _, v := range args {
			values = append(values, n(v))
		}
		return values
	}
	edge := func(e api.Edge) api.Edge { return api.Edge{Block: block(e.Block), Args: list(e.Args)} }
	end := api.Term{Kind: t.Kind, N: t.N, Args: list(t.Args), To: [2]api.Edge{edge(t.To[0]), edge(t.To[1])}}
	switch t.Kind {
	case api.TermBranch, api.TermReturn, api.TermThrow:
		end.A = n(t.A)
	}
	return end
}
