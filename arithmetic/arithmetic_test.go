package arithmetic

import (
	"testing"

	"debugger/api"
)

const (
	least    = -1 << 63
	greatest = 1<<63 - 1
)

func TestValue(t *testing.T) {
	for _, c := range []struct{ op, a, b, want int }{
		{api.ExprAdd, greatest, 1, least},
		{api.ExprSub, least, 1, greatest},
		{api.ExprMul, greatest, 2, -2},
		{api.ExprMul, least, -1, least},
		{api.ExprDiv, 7, 2, 3},
		{api.ExprDiv, -7, 2, -3},
		{api.ExprDiv, 7, -2, -3},
		{api.ExprDiv, least, -1, least},
		{api.ExprDiv, 7, 0, 0},
		{api.ExprDiv, 0, 0, 0},
		{api.ExprMod, 7, 2, 1},
		{api.ExprMod, -7, 2, -1},
		{api.ExprMod, 7, -2, 1},
		{api.ExprMod, least, -1, 0},
		{api.ExprMod, least, 10, -8},
		{api.ExprMod, 7, 0, 7},
		{api.ExprMod, least, 0, least},
		{api.ExprAnd, -2, 7, 6},
		{api.ExprOr, 4, 1, 5},
		{api.ExprXor, 6, 3, 5},
		{api.ExprLess, least, greatest, 1},
		{api.ExprLess, 3, 3, 0},
		{api.ExprLessEq, 3, 3, 1},
		{api.ExprLessEq, 4, 3, 0},
		{api.ExprEqual, 3, 3, 1},
		{api.ExprEqual, 3, 4, 0},
		{api.ExprNotEqual, 3, 4, 1},
		{api.ExprNotEqual, 3, 3, 0},
		{api.ExprNot, 1, 2, 0},
		{api.ExprNotEqual + 1, 1, 2, 0},
		{-1, 1, 2, 0},
	} {
		if got := Value(c.op, c.a, c.b); got != c.want {
			t.Errorf("Value(%d, %d, %d) = %d, not %d", c.op, c.a, c.b, got, c.want)
		}
	}
}
