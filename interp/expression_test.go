package interp

import (
	"fmt"
	"math/big"
	"strings"
	"testing"

	"debugger/api"
)

var edges = []int{least, least + 1, -1 << 32, -8, -7, -3, -2, -1, 0, 1, 2, 3, 7, 8, 1 << 31, 1 << 32, greatest - 1, greatest}

// wrapped returns a number modulo 2^64, as a signed one.
func wrapped(x *big.Int) int {
	low := new(big.Int).And(x, new(big.Int).SetUint64(1<<64-1))
	return int(low.Uint64())
}

// exact returns what an operator should, and whether it throws.
func exact(sign string, a, b int) (int, bool) {
	x, y, z := big.NewInt(int64(a)), big.NewInt(int64(b)), new(big.Int)
	order := x.Cmp(y)
	switch sign {
	case "+":
		z.Add(x, y)
	case "-":
		z.Sub(x, y)
	case "*":
		z.Mul(x, y)
	case "/", "%":
		if b == 0 {
			return 0, true
		}
		rest := new(big.Int)
		z.QuoRem(x, y, rest)
		if sign == "%" {
			z = rest
		}
	case "&":
		z.And(x, y)
	case "|":
		z.Or(x, y)
	case "^":
		z.Xor(x, y)
	case "<":
		return number(order < 0), false
	case "<=":
		return number(order <= 0), false
	case "==":
		return number(order == 0), false
	case "!=":
		return number(order != 0), false
	}
	return wrapped(z), false
}

func number(b bool) int {
	return map[bool]int{true: 1}[b]
}

var signs = strings.Fields("+ - * / % & | ^ < <= == !=")

func TestOperators(t *testing.T) {
	for _, sign := range signs {
		s := source(t, "func f(a, b) { return a "+sign+" b; }")
		for _, a := range edges {
			for _, b := range edges {
				_, o := Trace(s, 0, []int{a, b}, 1, 0, 0)
				want := api.Outcome{}
				want.Value, want.Thrown = exact(sign, a, b)
				if want.Thrown {
					want.Value = 1
				}
				if key(o) != key(want) {
					t.Errorf("P5.3: %d %s %d is %+v, not %+v", a, sign, b, o, want)
				}
			}
		}
	}
	for _, a := range edges {
		expectOutcome(t, "P5.3", "func f(a) { return -a; }", fmt.Sprintf("value %d", wrapped(new(big.Int).Neg(big.NewInt(int64(a))))), a)
		expectOutcome(t, "P5.3", "func f(a) { return !a; }", fmt.Sprintf("value %d", number(a == 0)), a)
		expectOutcome(t, "P5.3", "func f(a) { return !!a; }", fmt.Sprintf("value %d", number(a != 0)), a)
		expectOutcome(t, "P5.3", "func f(a) { return - -a; }", fmt.Sprintf("value %d", a), a)
	}
}

// The values that the document names, written out.
func TestNumbers(t *testing.T) {
	for _, c := range []struct {
		expression string
		a, b, want int
	}{
		{"a + b", greatest, 1, least},
		{"a - b", least, 1, greatest},
		{"a * b", greatest, 2, -2},
		{"a * b", least, -1, least},
		{"-a", least, 0, least},
		{"a / b", least, -1, least},
		{"a % b", least, -1, 0},
		{"a / b", -7, 2, -3},
		{"a / b", 7, -2, -3},
		{"a / b", -7, -2, 3},
		{"a % b", -7, 2, -1},
		{"a % b", 7, -2, 1},
		{"a % b", -7, -2, -1},
		{"a % b", -4, 2, 0},
		{"a & b", -1, 6, 6},
		{"a | b", -8, 7, -1},
		{"a ^ b", -1, 5, -6},
		{"a < b", -1, 0, 1},
		{"a < b", least, greatest, 1},
		{"a < b", 3, 3, 0},
		{"a <= b", 3, 3, 1},
		{"a <= b", 4, 3, 0},
		{"a == b", 3, 3, 1},
		{"a == b", 3, 4, 0},
		{"a != b", 3, 3, 0},
		{"a != b", 3, 4, 1},
		{"!a", 0, 0, 1},
		{"!a", -1, 0, 0},
		{"!a", 5, 0, 0},
		{"a - b - 1", 10, 4, 5},
		{"a - (b - 1)", 10, 4, 7},
		{"a + b * 2", 10, 4, 18},
		{"(a + b) * 2", 10, 4, 28},
		{"a & b == b", 4, 4, 1},
		{"-a * b", 3, 4, -12},
		{"999999999999999999 + a", 1, 0, 1000000000000000000},
		{"0", 1, 0, 0},
	} {
		expectOutcome(t, "P5.3", "func f(a, b) { return "+c.expression+"; }", fmt.Sprintf("value %d", c.want), c.a, c.b)
	}
}

// Both operands are evaluated, the left one first, also where one of them decides the result or the divisor is 0.
func TestOrderOfOperands(t *testing.T) {
	for _, sign := range signs {
		for _, c := range []struct{ left, right, want string }{
			{"1 / 0", "l[1]", "thrown 1"},
			{"l[1]", "1 / 0", "thrown 2"},
			{"0", "1 / 0", "thrown 1"},
			{"0", "l[1]", "thrown 2"},
			{"-1", "l[-1]", "thrown 2"},
			{"l[1]", "0", "thrown 2"},
			{"1 % 0", "0", "thrown 1"},
		} {
			expectOutcome(t, "P5.3", "func f() { var l: int[1]; return ("+c.left+") "+sign+" ("+c.right+"); }", c.want)
		}
	}
	for _, c := range []struct{ expression, want string }{
		{"1 / 0", "thrown 1"},
		{"1 % 0", "thrown 1"},
		{"0 / 0", "thrown 1"},
		{"0 % 0", "thrown 1"},
		{"-(1 / 0)", "thrown 1"},
		{"!(1 % 0)", "thrown 1"},
		{"-l[1]", "thrown 2"},
		{"!l[1]", "thrown 2"},
		{"l[1 / 0]", "thrown 1"},
		{"l[l[1]]", "thrown 2"},
		{"l[1] / 0", "thrown 2"},
		{"l[1 / 0] / 0", "thrown 1"},
		{"1 / 0 + l[1]", "thrown 1"},
		{"l[1] + 1 / 0", "thrown 2"},
		{"1 - (2 - l[1]) * (1 / 0)", "thrown 2"},
	} {
		expectOutcome(t, "P5.3", "func f() { var l: int[1]; return "+c.expression+"; }", c.want)
	}
}

// Each word of variables, records and arrays of each size, and the indexes around them.
func TestWords(t *testing.T) {
	for size := 1; size <= api.MaxLen; size++ {
		text := fmt.Sprintf("func f(a, b) { var x: int[%d]; var l: int[%d]; var y: int[%d]; var i: int; while i < %d { l[i] = i + 10; x[i] = 5; y[i] = 6; i = i + 1; } l[b] = l[b] + 7; return l[a]; }", size, size, size, size)
		for _, a := range []int{least, -1, 0, size - 1, size, greatest} {
			want := "thrown 2"
			if a >= 0 && a < size {
				want = fmt.Sprintf("value %d", a+10+7*number(a == size/2))
			}
			expectOutcome(t, "P5.3", text, want, a, size/2)
		}
	}
	fields := []string{"p", "q", "r", "s"}
	for n := range fields {
		record := "record R { " + strings.Join(fields[:n+1], ", ") + " } "
		for i, field := range fields[:n+1] {
			text := record + "func f(a) { var v: R; var w: R; w." + field + " = 1; v." + field + " = a; return v." + field + " * 10 + w." + field + "; }"
			expectOutcome(t, "P5.3", text, fmt.Sprintf("value %d", 10*i+31), i+3)
		}
	}
}

// Expressions as deep and as long as a program has them.
func TestLongExpressions(t *testing.T) {
	deep := strings.Repeat("-(1 + ", api.MaxNest/2) + "a" + strings.Repeat(")", api.MaxNest/2)
	expectOutcome(t, "P5.3", "func f(a) { return "+deep+"; }", "value 5", 5)
	expectOutcome(t, "P5.3", "func f(a) { return a"+strings.Repeat(" + a", 900)+"; }", "value 2703", 3)
}
