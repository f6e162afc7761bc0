package interp

import (
	"debugger/api"
	"debugger/arithmetic"
)

// What the language throws by itself.
const (
	badDivisor thrown = 1
	badIndex   thrown = 2
)

// values evaluates expressions in order.
func (r *run) values(list []api.Expr) []int {
	values := []int{}
	for _, e := range list {
		values = append(values, r.value(e))
	}
	return values
}

// value evaluates an expression.
func (r *run) value(e api.Expr) int {
	switch e.Op {
	case api.ExprLiteral:
		return e.Number
	case api.ExprVariable, api.ExprField, api.ExprElement:
		return *r.word(e)
	}
	a := r.value(e.Args[0])
	switch e.Op {
	case api.ExprNegate:
		return -a
	case api.ExprNot:
		return arithmetic.Value(api.ExprEqual, a, 0)
	}
	return operate(e.Op, a, r.value(e.Args[1]))
}

// word returns the word of a variable, a field or an element, whose index it evaluates.
func (r *run) word(e api.Expr) *int {
	words := r.now().words[e.Var]
	switch e.Op {
	case api.ExprField:
		return &words[e.Number]
	case api.ExprElement:
		index := r.value(e.Args[0])
		if index < 0 || index >= len(words) {
			panic(badIndex)
		}
		return &words[index]
	}
	return &words[0]
}

// operate returns the value of an operator with two operands.
func operate(op, a, b int) int {
	if op < api.ExprAdd || op > api.ExprNotEqual {
		panic(stop(api.ErrForm))
	}
	if b == 0 && (op == api.ExprDiv || op == api.ExprMod) {
		panic(badDivisor)
	}
	return arithmetic.Value(op, a, b)
}
