package fold

import (
	"iter"

	"debugger/api"
	"debugger/arithmetic"
	"debugger/operation"
)

// knowledge is what is known about the values of a block, at a place in it.
type knowledge struct {
	constants map[int]int // the words of the values that are known to be constants
	originals map[int]int // the representatives of the values that have one
}

// replace puts representatives in the place of values.
func (k knowledge) replace(values iter.Seq[*int]) {
	for v := range values {
		if original, ok := k.originals[*v]; ok {
			*v = original
		}
	}
}

// is tells whether a value is known to be a constant, and that one.
func (k knowledge) is(value, constant int) bool {
	n, known := k.constants[value]
	return known && n == constant
}

// fold changes an operation to what it is with what is known, and learns from it.
func (k knowledge) fold(o *api.Op) {
	k.replace(operation.Values(o))
	switch {
	case o.Kind == api.OpConst:
		k.constants[o.Dst] = o.N
	case o.Kind == api.OpCopy:
		k.foldCopy(o)
	case operation.Binary(o.Kind):
		k.foldBinary(o)
	case o.Kind == api.OpBind && o.Src.Kind == api.SrcValue:
		k.foldSrc(&o.Src)
	}
}

func (k knowledge) foldCopy(o *api.Op) {
	if n, known := k.constants[o.A]; known {
		k.become(o, n)
		return
	}
	k.originals[o.Dst] = o.A
}

func (k knowledge) foldBinary(o *api.Op) {
	if n, known := k.result(*o); known {
		k.become(o, n)
		return
	}
	if x, same := k.unchanged(*o); same {
		*o = api.Op{Kind: api.OpCopy, Dst: o.Dst, A: x}
		k.originals[o.Dst] = x
		return
	}
	if k.vanishes(*o) {
		k.become(o, 0)
	}
}

// become changes an operation to an OpConst.
func (k knowledge) become(o *api.Op, n int) {
	*o = api.Op{Kind: api.OpConst, Dst: o.Dst, N: n}
	k.constants[o.Dst] = n
}

// result returns the word of an operation with two known operands, and whether it may be computed ahead of time.
func (k knowledge) result(o api.Op) (int, bool) {
	a, knownA := k.constants[o.A]
	b, knownB := k.constants[o.B]
	divides := o.Kind == api.OpDiv || o.Kind == api.OpMod
	if !knownA || !knownB || divides && b == 0 {
		return 0, false
	}
	return arithmetic.Value(operation.Operator(o.Kind), a, b), true
}

// unchanged returns the operand that an operation leaves as it is because of the other one, and whether it does.
func (k knowledge) unchanged(o api.Op) (int, bool) {
	neutral := 0
	switch o.Kind {
	case api.OpAdd, api.OpSub, api.OpOr, api.OpXor:
	case api.OpMul, api.OpDiv:
		neutral = 1
	default:
		return 0, false
	}
	swaps := o.Kind != api.OpSub && o.Kind != api.OpDiv
	switch {
	case k.is(o.B, neutral):
		return o.A, true
	case swaps && k.is(o.A, neutral):
		return o.B, true
	}
	return 0, false
}

// vanishes tells whether an operand makes the result 0.
func (k knowledge) vanishes(o api.Op) bool {
	return (o.Kind == api.OpMul || o.Kind == api.OpAnd) && (k.is(o.A, 0) || k.is(o.B, 0))
}

// foldSrc changes what a piece is bound to. Of a value that is defined behind the Bind nothing is known yet.
func (k knowledge) foldSrc(s *api.Src) {
	if original, ok := k.originals[s.Val]; ok {
		s.Val = original
	}
	if n, known := k.constants[s.Val]; known {
		*s = api.Src{Kind: api.SrcConstant, Add: n + s.Add}
	}
}

func (k knowledge) foldTerm(t *api.Term) {
	k.replace(operation.Leaving(t))
	n, known := k.constants[t.A]
	if t.Kind != api.TermBranch || !known {
		return
	}
	taken := t.To[0]
	if n == 0 {
		taken = t.To[1]
	}
	*t = api.Term{Kind: api.TermJump, To: [2]api.Edge{taken, {Block: -1}}}
}
