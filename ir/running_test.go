package ir

import (
	"fmt"
	"math/big"
	"strings"
	"testing"

	"debugger/api"
)

var edges = []int{least, least + 1, -1 << 32, -8, -7, -3, -2, -1, 0, 1, 2, 3, 7, 8, 1 << 31, 1 << 32, greatest - 1, greatest}

var signs = strings.Fields("+ - * / % & | ^ < <= == !=")

// wrapped returns a number modulo 2^64, as a signed one.
func wrapped(x *big.Int) int {
	low := new(big.Int).And(x, new(big.Int).SetUint64(1<<64-1))
	return int(low.Uint64())
}

// exact returns what an operator should.
func exact(sign string, a, b int) int {
	x, y, z := big.NewInt(int64(a)), big.NewInt(int64(b)), new(big.Int)
	order := x.Cmp(y)
	switch {
	case sign == "/" && b == 0:
		return 0
	case sign == "%" && b == 0:
		return a
	}
	switch sign {
	case "+":
		z.Add(x, y)
	case "-":
		z.Sub(x, y)
	case "*":
		z.Mul(x, y)
	case "/":
		z.Quo(x, y)
	case "%":
		z.Rem(x, y)
	case "&":
		z.And(x, y)
	case "|":
		z.Or(x, y)
	case "^":
		z.Xor(x, y)
	case "<":
		return number(order < 0)
	case "<=":
		return number(order <= 0)
	case "==":
		return number(order == 0)
	case "!=":
		return number(order != 0)
	}
	return wrapped(z)
}

func number(b bool) int { return map[bool]int{true: 1}[b] }

func TestOperators(t *testing.T) {
	for _, sign := range signs {
		m := module(t, "(2) v2 = v0 "+sign+" v1; return v2")
		for _, a := range edges {
			for _, b := range edges {
				expectOutcome(t, "P6.3", m, []int{a, b}, fmt.Sprintf("value %d", exact(sign, a, b)))
			}
		}
	}
	for _, a := range edges {
		expectOutcome(t, "P6.3", module(t, fmt.Sprintf("(0) v7 = %d; v3 = copy v7; return v3", a)), nil, fmt.Sprintf("value %d", a))
		expectOutcome(t, "P6.3", module(t, "(2) v2 = copy v1; v5 = copy v2; throw v5"), []int{4, a}, fmt.Sprintf("thrown %d", a))
	}
}

// The values that the document names, written out.
func TestDivisions(t *testing.T) {
	for _, c := range []struct {
		sign       string
		a, b, want int
	}{
		{"/", 7, 0, 0},
		{"/", 0, 0, 0},
		{"/", least, 0, 0},
		{"%", 7, 0, 7},
		{"%", -7, 0, -7},
		{"%", least, 0, least},
		{"/", least, -1, least},
		{"%", least, -1, 0},
		{"/", -7, 2, -3},
		{"%", -7, 2, -1},
		{"%", 7, -2, 1},
		{"+", greatest, 1, least},
		{"-", least, 1, greatest},
		{"*", greatest, 2, -2},
	} {
		expectOutcome(t, "P6.3", module(t, "(2) v2 = v0 "+c.sign+" v1; return v2"), []int{c.a, c.b}, fmt.Sprintf("value %d", c.want))
	}
}

func TestObjectsOfActivations(t *testing.T) {
	load := module(t, "object 0 0 3\nobject 0 1 8\n(1) v9 = 1; store 0 v9 v9; v1 = load 0 v0; return v1")
	for index, want := range map[int]int{least: 0, -1: 0, 0: 0, 1: 1, 2: 0, 3: 0, 7: 0, 8: 0, greatest: 0} {
		expectOutcome(t, "P6.3", load, []int{index}, fmt.Sprintf("value %d", want))
	}
	const all = "v2 = 0; v3 = 1; v4 = 2; v5 = load 0 v2; print v5; v6 = load 0 v3; print v6; v7 = load 0 v4; print v7; v8 = load 1 v2; print v8; return v2"
	store := module(t, "object 0 1 3\nobject 0 0 1\n(2) store 0 v0 v1; "+all)
	for index, want := range map[int]string{least: "0 0 0 0", -1: "0 0 0 0", 0: "5 0 0 0", 1: "0 5 0 0", 2: "0 0 5 0", 3: "0 0 0 0", greatest: "0 0 0 0"} {
		expectOutcome(t, "P6.3", store, []int{index, 5}, "value 0 output "+want)
	}
	zero := module(t, "object 0 1 3\nobject 0 0 1\n(2) v10 = 0; store 1 v10 v1; store 0 v0 v1; store 0 v10 v1; zero 0; "+all)
	expectOutcome(t, "P6.3", zero, []int{1, 5}, "value 0 output 0 0 0 5")
	// What was stored stays in the next blocks.
	expectOutcome(t, "P6.3", module(t, "object 0 1 3\n(2) store 0 v0 v1; jump 1(v0)\n(1) v1 = load 0 v0; return v1"), []int{2, 6}, "value 6")
	// Each activation has its own words, all 0 at first, and those of its caller stay; so it is behind a tail call.
	expectOutcome(t, "P6.3", module(t,
		"object 0 0 2\n(2) store 0 v0 v1; call 1(v0 v1) 1(v0)\n(2) print v0; v2 = load 0 v1; print v2; v3 = 9; call 1(v1 v3) 2()\n(1) return v0",
		"object 0 0 2\n(2) v2 = load 0 v0; print v2; store 0 v0 v1; v3 = load 0 v0; return v3"), []int{1, 5}, "value 9 output 0 5 5 0")
	expectOutcome(t, "P6.3", module(t, "object 0 0 2\n(2) v2 = load 0 v0; print v2; store 0 v0 v1; v3 = 1; v4 = v1 - v3; branch v1 1(v0 v4) 2()\n(2) tail 0(v0 v1)\n(0) v0 = 3; return v0"),
		[]int{0, 2}, "value 3 output 0 0 0")
}

func TestTermsOfRuns(t *testing.T) {
	for _, c := range []struct {
		text string
		args []int
		want string
	}{
		{"(1) v1 = v0 + v0; return v1", []int{3}, "value 6"},
		{"(1) print v0; print v0; throw v0", []int{3}, "thrown 3 output 3 3"},
		{"(2) jump 1(v1 v0)\n(2) print v0; return v1", []int{3, 4}, "value 3 output 4"},
		// Parameters change places all at once.
		{"(3) jump 1(v0 v1 v2)\n(3) print v0; print v1; branch v2 2(v1 v2 v0) 3(v0)\n(3) jump 1(v2 v0 v1)\n(1) return v0", []int{3, 4, 0}, "value 3 output 3 4"},
		{"(2) v9 = 3; jump 1(v0 v1 v9)\n(3) v3 = v0 - v2; print v0; v5 = 1; v4 = v2 - v5; branch v4 1(v1 v0 v4) 2(v1 v0)\n(2) print v0; return v1", []int{3, 4}, "value 3 output 3 4 3 4"},
		{"(1) branch v0 1() 2()\n(0) v0 = 7; return v0\n(0) v0 = 8; return v0", []int{1}, "value 7"},
		{"(1) branch v0 1() 2()\n(0) v0 = 7; return v0\n(0) v0 = 8; return v0", []int{0}, "value 8"},
		{"(1) branch v0 1() 2()\n(0) v0 = 7; return v0\n(0) v0 = 8; return v0", []int{-1}, "value 7"},
		{"(1) branch v0 1() 2()\n(0) v0 = 7; return v0\n(0) v0 = 8; return v0", []int{least}, "value 7"},
		{"(1) branch v0 1(v0) 1(v1)\n(1) return v0", []int{5}, "none"},
		{"(1) v1 = 9; branch v0 1(v0) 1(v1)\n(1) return v0", []int{5}, "value 5"},
		{"(1) v1 = 9; branch v0 1(v0) 1(v1)\n(1) return v0", []int{0}, "value 9"},
	} {
		if c.want == "none" {
			c.want = fmt.Sprintf("error %d", api.ErrForm)
		}
		expectOutcome(t, "P6.3", module(t, c.text), c.args, c.want)
	}
}

func TestCallsOfRuns(t *testing.T) {
	const caller = "(2) call 1(v1 v0) 1(v0)\n(2) print v0; return v1"
	const catcher = "(2) call 1(v1 v0) 1(v0) 2(v1 v0)\n(2) print v0; return v1\n(3) print v0; print v1; throw v2"
	for _, c := range []struct {
		about string
		texts []string
		args  []int
		want  string
	}{
		{"a result", []string{caller, "(2) v2 = v0 - v1; return v2"}, []int{3, 10}, "value 3 output 7"},
		{"a thrown value without a handler", []string{caller, "(2) v2 = v0 - v1; throw v2"}, []int{3, 10}, "thrown 7"},
		{"a result with a handler", []string{catcher, "(2) v2 = v0 - v1; return v2"}, []int{3, 10}, "value 3 output 7"},
		{"a thrown value with a handler", []string{catcher, "(2) v2 = v0 - v1; throw v2"}, []int{3, 10}, "thrown 3 output 7 10"},
		{"a thrown value through an activation", []string{catcher, "(2) v2 = 1; call 2(v0 v2) 1()\n(1) print v0; return v0", "(2) v2 = v0 + v1; throw v2"}, []int{3, 10}, "thrown 3 output 11 10"},
		{"a handler further in", []string{catcher, "(2) call 2(v0 v1) 1() 2()\n(1) print v0; return v0\n(1) v1 = 100; v2 = v0 + v1; return v2", "(2) v2 = v0 + v1; throw v2"}, []int{3, 10}, "value 3 output 113"},
		{"a handler that throws on", []string{catcher, "(2) call 2(v0 v1) 1() 2()\n(1) print v0; return v0\n(1) v1 = 100; v2 = v0 + v1; throw v2", "(2) v2 = v0 + v1; throw v2"}, []int{3, 10}, "thrown 3 output 113 10"},
		{"a tail call", []string{"(2) tail 1(v1 v0)", "(2) v2 = v0 - v1; return v2"}, []int{3, 10}, "value 7"},
		{"a tail call that throws", []string{"(2) tail 1(v1 v0)", "(2) v2 = v0 - v1; throw v2"}, []int{3, 10}, "thrown 7"},
		{"a call of a tail call", []string{catcher, "(2) tail 2(v1 v0)", "(2) v2 = v0 - v1; return v2"}, []int{3, 10}, "value 3 output -7"},
		{"a call of a tail call that throws", []string{catcher, "(2) tail 2(v1 v0)", "(2) v2 = v0 - v1; throw v2"}, []int{3, 10}, "thrown 3 output -7 10"},
		{"itself", []string{"(2) branch v0 1(v0 v1) 2(v1)\n(2) v2 = 1; v3 = v0 - v2; v4 = v1 * v0; call 0(v3 v4) 2()\n(1) return v0"}, []int{5, 1}, "value 120"},
		{"itself with words that stay", []string{"(1) v1 = 1; v2 = v0 - v1; branch v0 1(v0 v2) 2(v0)\n(2) call 0(v1) 3(v0)\n(1) return v0\n(2) print v1; return v0"}, []int{4}, "value 0 output 1 2 3 4"},
	} {
		expectOutcome(t, "P6.3, "+c.about, module(t, c.texts...), c.args, c.want)
	}
}

// deep calls itself as often as its argument says, with or without a handler, and returns 0 then.
const deep = "(1) branch v0 1(v0) 2(v0)\n(1) v1 = 1; v2 = v0 - v1; call 0(v2) 2()%s\n(1) return v0\n(1) v1 = 77; return v1"

func TestMostCalls(t *testing.T) {
	for handler, name := range map[string]string{"": "without a handler", " 3()": "with a handler"} {
		m := module(t, fmt.Sprintf(deep, handler))
		for calls := range api.MaxCalls {
			expectOutcome(t, "P6.3, "+name, m, []int{calls}, "value 0")
		}
		for calls := range 3 {
			expectOutcome(t, "P6.3, "+name, m, []int{api.MaxCalls + calls}, fmt.Sprintf("error %d", api.ErrLimit))
		}
	}
	// Activations that have ended do not count, however they have.
	loop := "(1) jump 1(v0)\n(1) v1 = 1; v2 = v0 - v1; branch v0 2(v2) 3(v0)\n(1) call 1() 4(v0) 4(v0)\n(1) return v0\n(2) jump 1(v1)"
	for _, callee := range []string{"(0) v0 = 5; return v0", "(0) v0 = 5; throw v0", "(0) tail 2()"} {
		expectOutcome(t, "P6.3", module(t, loop, callee, "(0) v0 = 5; return v0"), []int{100}, "value 0")
	}
	// A tail call replaces an activation: it never is one too many.
	tail := "(1) v1 = 1; v2 = v0 - v1; branch v0 1(v2) 2(v0)\n(1) tail %d(v0)\n(1) return v0"
	expectOutcome(t, "P6.3", module(t, fmt.Sprintf(tail, 0)), []int{100}, "value 0")
	expectOutcome(t, "P6.3", module(t, fmt.Sprintf(deep, ""), fmt.Sprintf(tail, 1)), []int{api.MaxCalls - 1}, "value 0")
	last := "(1) v1 = 1; v2 = v0 - v1; branch v0 1(v2) 2()\n(1) call 0(v0) 3()\n(0) v0 = 9; %s\n(1) return v0"
	expectOutcome(t, "P6.3", module(t, fmt.Sprintf(last, "tail 1(v0)"), "(1) return v0"), []int{api.MaxCalls - 1}, "value 9")
	expectOutcome(t, "P6.3", module(t, fmt.Sprintf(last, "call 1(v0) 3()"), "(1) return v0"), []int{api.MaxCalls - 1}, fmt.Sprintf("error %d", api.ErrLimit))
	expectOutcome(t, "P6.3", module(t, fmt.Sprintf(last, "call 1(v0) 3()"), "(1) return v0"), []int{api.MaxCalls - 2}, "value 9")
	// With ErrLimit, too, there is what was printed, and the events.
	m := module(t, "(0) mark 4; v0 = 8; print v0; call 0() 1()\n(1) return v0")
	events, o := Trace(api.Source{}, m, 0, nil, 100, 0, 100)
	if want := (api.Outcome{Err: api.ErrLimit}); len(events) != api.MaxCalls || len(o.Output) != api.MaxCalls || o.Err != want.Err || o.Thrown || o.Value != 0 {
		t.Errorf("P6.3: %d events and %s", len(events), describe(o))
	}
}

// fuel counts down in two blocks a time: 2 * n + 3 blocks are entered for the argument n, and more behind them.
const fuel = "(1) jump 1(v0)\n(1) v1 = 1; v2 = v0 - v1; branch v0 2(v2) 3(v0)\n(1) %sjump 1(v0)\n(1) %s\n(1) return v0"

func TestFuelOfBlocks(t *testing.T) {
	odd, even := module(t, fmt.Sprintf(fuel, "", "return v0")), module(t, fmt.Sprintf(fuel, "", "jump 4(v0)"))
	expectOutcome(t, "P6.3: 4999 blocks", odd, []int{2498}, "value 0")
	expectOutcome(t, "P6.3: 5000 blocks", even, []int{2498}, "value 0")
	expectOutcome(t, "P6.3: 5001 blocks", odd, []int{2499}, fmt.Sprintf("error %d", api.ErrFuel))
	expectOutcome(t, "P6.3: without an end", odd, []int{-1}, fmt.Sprintf("error %d", api.ErrFuel))
	// With an event in the loop there is fuel for all.
	expectOutcome(t, "P6.3", module(t, fmt.Sprintf(fuel, "mark 0; ", "return v0")), []int{api.MaxSteps}, "value 0")
	expectOutcome(t, "P6.3", module(t, fmt.Sprintf(fuel, "mark 0; ", "return v0")), []int{api.MaxSteps + 1}, fmt.Sprintf("error %d", api.ErrFuel))
	expectOutcome(t, "P6.3", module(t, fmt.Sprintf(fuel, "at 0; bind 0 to v0; print v0; ", "return v0")), []int{2499}, "error 13 output "+countdown(2498, 0))
}

func countdown(from, to int) string {
	list := []string{}
	for n := from; n >= to; n-- {
		list = append(list, fmt.Sprint(n))
	}
	return strings.Join(list, " ")
}

// The blocks since an event count, those of all activations.
func TestFuelSinceEvent(t *testing.T) {
	// Block 1 has the only event; then block 2 is entered n + 1 times, and block 3 once.
	text := "(1) jump 1(v0)\n(1) mark 0; jump 2(v0)\n(1) v1 = 1; v2 = v0 - v1; branch v0 2(v2) 3(v0)\n(1) %s"
	m := module(t, fmt.Sprintf(text, "return v0"))
	expectOutcome(t, "P6.3", m, []int{4998}, "value 0")
	expectOutcome(t, "P6.3", m, []int{4999}, fmt.Sprintf("error %d", api.ErrFuel))
	// A call enters block 0, its result and a thrown value a block of the caller; so does a tail call.
	for _, c := range []struct {
		term, callee string
		blocks       int
	}{
		{"call 1() 4()", "(0) v0 = 5; return v0", 2},
		{"call 1() 5() 4()", "(0) v0 = 5; throw v0", 2},
		{"call 1() 4() 4()", "(0) jump 1()\n(0) v0 = 5; throw v0", 3},
		{"tail 1()", "(0) v0 = 5; return v0", 1},
		{"tail 1()", "(0) v0 = 5; throw v0", 1},
	} {
		m := module(t, fmt.Sprintf(text, c.term)+"\n(1) return v0\n(1) v1 = 6; return v1", c.callee)
		value := "value 5"
		if strings.HasSuffix(c.term, "l 1()") && strings.Contains(c.callee, "throw") {
			value = "thrown 5"
		}
		expectOutcome(t, "P6.3: "+c.term, m, []int{4998 - c.blocks}, value)
		expectOutcome(t, "P6.3: "+c.term, m, []int{4999 - c.blocks}, fmt.Sprintf("error %d", api.ErrFuel))
	}
	// A thrown value that nothing catches enters no block, and the end of the run neither.
	end := "(1) call 1(v0) 1()\n(1) return v0"
	callee := "(1) v1 = 1; v2 = v0 - v1; branch v0 1(v2) 2()\n(1) v1 = 1; v2 = v0 - v1; branch v0 1(v2) 2()\n(0) v0 = 3; throw v0"
	expectOutcome(t, "P6.3", module(t, end, callee), []int{4997}, "thrown 3")
	expectOutcome(t, "P6.3", module(t, end, callee), []int{4998}, fmt.Sprintf("error %d", api.ErrFuel))
	// The limit of activations comes ahead of the fuel.
	both := module(t, "(2) v2 = 1; v3 = v1 - v2; branch v1 1(v0 v3) 2(v0 v1)\n(2) call 0(v0 v1) 3()\n(2) v2 = 1; v3 = v0 - v2; branch v0 2(v3 v1) 4(v0 v1)\n(1) return v0\n(2) call 0(v0 v1) 3()")
	expectOutcome(t, "P6.3", both, []int{5000 - 2*(api.MaxCalls-1) - 3, api.MaxCalls - 1}, fmt.Sprintf("error %d", api.ErrLimit))
	expectOutcome(t, "P6.3", both, []int{5000 - 2*(api.MaxCalls-1) - 2, api.MaxCalls - 1}, fmt.Sprintf("error %d", api.ErrFuel))
}
