// Package arithmetic computes the operators that the source language, the intermediate code and the machine have in common.
package arithmetic

import "debugger/api"

// Value returns the value of an operator with two operands (api.ExprAdd to api.ExprNotEqual) as the machine computes it: a quotient by 0 is 0, a remainder by 0 the dividend. It is 0 for what is no such operator.
func Value(op, a, b int) int {
	switch op {
	case api.ExprAdd:
		return a + b
	case api.ExprSub:
		return a - b
	case api.ExprMul:
		return a * b
	case api.ExprDiv:
		return quotient(a, b)
	case api.ExprMod:
		// Go's quotient of the least number and -1 wraps around as the document wants it, and so does this.
		return a - quotient(a, b)*b
	case api.ExprAnd:
		return a & b
	case api.ExprOr:
		return a | b
	case api.ExprXor:
		return a ^ b
	case api.ExprLess:
		return truth(a < b)
	case api.ExprLessEq:
		return truth(a <= b)
	case api.ExprEqual:
		return truth(a == b)
	case api.ExprNotEqual:
		return truth(a != b)
	}
	return 0
}

func quotient(a, b int) int {
	if b == 0 {
		return 0
	}
	return a / b
}

func truth(b bool) int {
	if b {
		return 1
	}
	return 0
}
