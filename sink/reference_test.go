package sink

import (
	"debugger/api"
	"debugger/duplicate"
)

// reckon returns what Sink should make of a sound code: it builds the lists as the document says.
func reckon(c api.Code) api.Code {
	c = duplicate.Code(c)
	for i, b := range c.Blocks {
		list := []api.Op{}
		for j := len(b.Ops) - 1; j >= 0; j-- {
			list = with(list, b.Ops[j])
		}
		c.Blocks[i].Ops = list
	}
	return c
}

// with returns a list with one more operation.
func with(list []api.Op, o api.Op) []api.Op {
	place := 0
	switch o.Kind {
	case api.OpConst, api.OpCopy, api.OpAdd, api.OpSub, api.OpMul, api.OpDiv, api.OpMod, api.OpAnd, api.OpOr, api.OpXor, api.OpLess, api.OpLessEq, api.OpEqual, api.OpNotEqual:
		for place < len(list) && !needs(list[place], o.Dst) {
			place++
		}
	}
	result := append([]api.Op{}, list[:place]...)
	result = append(result, o)
	return append(result, list[place:]...)
}

// needs tells whether a value is an operand of an operation.
func needs(o api.Op, value int) bool {
	switch o.Kind {
	case api.OpConst, api.OpZero, api.OpMark, api.OpAt, api.OpBind:
		return false
	case api.OpCopy, api.OpLoad, api.OpPrint:
		return o.A == value
	}
	return o.A == value || o.B == value
}
