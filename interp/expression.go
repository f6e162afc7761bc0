package interp

import "debugger/api"

// What the language throws by itself.
const (
	badDivisor thrown = 1
	badIndex   thrown = 2
)

// values evaluates expressions in order.
func (r *run) values(list []api.Expr) []int {
	values := []int{}
	for _, e := range list {
		values = append(values, r.value(e))
	}
	return values
}

// value evaluates an expression.
func (r *run) value(e api.Expr) int {
	switch e.Op {
	case api.ExprLiteral:
		return e.Number
	case api.ExprVariable, api.ExprField, api.ExprElement:
		return *r.word(e)
	}
	a := r.value(e.Args[0])
	switch e.Op {
	case api.ExprNegate:
		return -a
	case api.ExprNot:
		return truth(a == 0)
	}
	return operate(e.Op, a, r.value(e.Args[1]))
}

// word returns the word of a variable, a field or an element, whose index it evaluates.
func (r *run) word(e api.Expr) *int {
	words := r.now().words[e.Var]
	switch e.Op {
	case api.ExprField:
		return &words[e.Number]
	case api.ExprElement:
		index := r.value(e.Args[0])
		if index < 0 || index >= len(words) {
			panic(badIndex)
		}
		return &words[index]
	}
	return &words[0]
}

// operate returns the value of an operator with two operands.
func operate(op, a, b int) int {
	switch op {
	case api.ExprAdd:
		return a + b
	case api.ExprSub:
		return a - b
	case api.ExprMul:
		return a * b
	case api.ExprDiv:
		return a / divisor(b)
	case api.ExprMod:
		return a % divisor(b)
	case api.ExprAnd:
		return a & b
	case api.ExprOr:
		return a | b
	case api.ExprXor:
		return a ^ b
	case api.ExprLess:
		return truth(a < b)
	case api.ExprLessEq:
		return truth(a <= b)
	case api.ExprEqual:
		return truth(a == b)
	case api.ExprNotEqual:
		return truth(a != b)
	}
	panic(stop(api.ErrForm))
}

// divisor returns a number by which one can divide.
func divisor(b int) int {
	if b == 0 {
		panic(badDivisor)
	}
	return b
}

func truth(b bool) int {
	if b {
		return 1
	}
	return 0
}
