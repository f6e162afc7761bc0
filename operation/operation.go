// Package operation tells which fields the operations and the terminators of the intermediate code use.
package operation

import "debugger/api"

// Defines tells whether the operations of a kind define a value, which is Dst.
func Defines(kind int) bool { return kind >= api.OpConst && kind <= api.OpLoad }

// Binary tells whether the operations of a kind have the value of an operator with the operands A and B.
func Binary(kind int) bool { return kind >= api.OpAdd && kind <= api.OpNotEqual }

// Uses tells whether the operations of a kind use the values A and B.
func Uses(kind int) (a, b bool) {
	switch {
	case Binary(kind), kind == api.OpStore:
		return true, true
	case kind == api.OpCopy, kind == api.OpLoad, kind == api.OpPrint:
		return true, false
	}
	return false, false
}

// Operator returns the operator of the source language that the operations of a binary kind compute.
func Operator(kind int) int { return kind - api.OpAdd + api.ExprAdd }

// Kind returns the kind of the operations that compute an operator with two operands; it is not binary if there is no such operator.
func Kind(operator int) int { return operator - api.ExprAdd + api.OpAdd }

// Count returns how many operations a code has.
func Count(c api.Code) int {
	count := 0
	for _, b := range c.Blocks {
		count += len(b.Ops)
	}
	return count
}
