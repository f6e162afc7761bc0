package dead

import "debugger/api"

// source returns to what a piece is bound that was bound to a value plus a number.
func (r rest) source(w value, a int) api.Src {
	if v, stays := r.numbers[w]; stays {
		return api.Src{Kind: api.SrcValue, Val: v, Add: a}
	}
	o, defined := r.definitions[w]
	if !defined {
		return r.entry(w, a)
	}
	if o.Kind == api.OpConst {
		return api.Src{Kind: api.SrcConstant, Add: o.N + a}
	}
	if x, n, is := r.moved(w.block, o); is {
		return r.source(x, a+n)
	}
	return api.Src{Kind: api.SrcNowhere}
}

// entry returns to what a piece is bound that was bound to a parameter, which does not stay, plus a number.
func (r rest) entry(p value, a int) api.Src {
	if k, has := r.origins[p]; has {
		return api.Src{Kind: api.SrcEntry, Val: k, Add: a}
	}
	return api.Src{Kind: api.SrcNowhere}
}

// moved returns an operand and the constant that has to be added to it for the value of an operation of a block, and whether there are such.
func (r rest) moved(block int, o api.Op) (value, int, bool) {
	left, right := value{block, o.A}, value{block, o.B}
	switch o.Kind {
	case api.OpCopy:
		return left, 0, true
	case api.OpAdd:
		if n, is := r.constant(right); is {
			return left, n, true
		}
		n, is := r.constant(left)
		return right, n, is
	case api.OpSub:
		n, is := r.constant(right)
		return left, -n, is
	}
	return value{}, 0, false
}

// constant returns the number of the OpConst that defines a value, and whether one does.
func (r rest) constant(v value) (int, bool) {
	o, defined := r.definitions[v]
	return o.N, defined && o.Kind == api.OpConst
}
