package isa

import (
	"testing"

	"debugger/api"
)

// operatorRow is an operation with its operands and its result.
type operatorRow struct{ op, b, c, want int }

func operatorRows() []operatorRow {
	return []operatorRow{
		{api.InstAdd, 7, -9, -2},
		{api.InstAdd, greatest, 1, least},
		{api.InstAdd, least, least, 0},
		{api.InstSub, 7, -9, 16},
		{api.InstSub, least, 1, greatest},
		{api.InstSub, 0, least, least},
		{api.InstMul, 7, -9, -63},
		{api.InstMul, greatest, 2, -2},
		{api.InstMul, least, -1, least},
		{api.InstMul, greatest, greatest, 1},
		{api.InstDiv, 7, 2, 3},
		{api.InstDiv, -7, 2, -3},
		{api.InstDiv, 7, -2, -3},
		{api.InstDiv, -7, -2, 3},
		{api.InstDiv, least, -1, least},
		{api.InstDiv, greatest, -1, -greatest},
		{api.InstDiv, least, greatest, -1},
		{api.InstDiv, greatest, least, 0},
		{api.InstDiv, 7, 0, 0},
		{api.InstDiv, least, 0, 0},
		{api.InstDiv, 0, 0, 0},
		{api.InstMod, 7, 2, 1},
		{api.InstMod, -7, 2, -1},
		{api.InstMod, 7, -2, 1},
		{api.InstMod, -7, -2, -1},
		{api.InstMod, -6, 2, 0},
		{api.InstMod, least, -1, 0},
		{api.InstMod, greatest, -1, 0},
		{api.InstMod, least, greatest, -1},
		{api.InstMod, greatest, least, greatest},
		{api.InstMod, 7, 0, 7},
		{api.InstMod, -7, 0, -7},
		{api.InstMod, least, 0, least},
		{api.InstAnd, 12, 10, 8},
		{api.InstAnd, -1, least, least},
		{api.InstAnd, greatest, least, 0},
		{api.InstOr, 12, 10, 14},
		{api.InstOr, greatest, least, -1},
		{api.InstOr, least, 1, least + 1},
		{api.InstXor, 12, 10, 6},
		{api.InstXor, greatest, -1, least},
		{api.InstXor, least, least, 0},
		{api.InstLess, 3, 4, 1},
		{api.InstLess, 4, 4, 0},
		{api.InstLess, 5, 4, 0},
		{api.InstLess, -1, 0, 1},
		{api.InstLess, least, greatest, 1},
		{api.InstLess, greatest, least, 0},
		{api.InstLessEq, 3, 4, 1},
		{api.InstLessEq, 4, 4, 1},
		{api.InstLessEq, 5, 4, 0},
		{api.InstLessEq, 0, -1, 0},
		{api.InstLessEq, least, greatest, 1},
		{api.InstLessEq, greatest, least, 0},
		{api.InstEqual, 4, 4, 1},
		{api.InstEqual, 4, 5, 0},
		{api.InstEqual, least, least, 1},
		{api.InstEqual, 1, 1<<32 + 1, 0},
		{api.InstNotEqual, 4, 4, 0},
		{api.InstNotEqual, 4, 5, 1},
		{api.InstNotEqual, least, least, 0},
		{api.InstNotEqual, 1, 1<<32 + 1, 1},
	}
}

// The result is written to a register of its own, to that of the first operand, to that of the second one, and to R0 and the stack pointer.
func TestOperators(t *testing.T) {
	for _, r := range operatorRows() {
		for _, a := range []int{0, 1, 2, 3, api.SP, 15} {
			c := with(with(numbered(), 2, r.b), 3, r.c)
			expectEffect(t, c, api.Inst{Op: r.op, A: a, B: 2, C: 3, Imm: 99}, api.Effect{Cpu: with(next(c), a, r.want)})
		}
		for _, b := range []int{0, api.SP, 15} {
			c := with(with(numbered(), b, r.b), 3, r.c)
			expectEffect(t, c, api.Inst{Op: r.op, A: 1, B: b, C: 3, Imm: -99}, api.Effect{Cpu: with(next(c), 1, r.want)})
			c = with(with(numbered(), 3, r.b), b, r.c)
			expectEffect(t, c, api.Inst{Op: r.op, A: b, B: 3, C: b}, api.Effect{Cpu: with(next(c), b, r.want)})
		}
	}
}

// Both operands may be one register, which may be that of the result.
func TestOperatorsOfOne(t *testing.T) {
	results := map[int]int{
		api.InstAdd: -14, api.InstSub: 0, api.InstMul: 49, api.InstDiv: 1, api.InstMod: 0, api.InstAnd: -7,
		api.InstOr: -7, api.InstXor: 0, api.InstLess: 0, api.InstLessEq: 1, api.InstEqual: 1, api.InstNotEqual: 0,
	}
	for op, want := range results {
		for register := range 16 {
			c := with(numbered(), register, -7)
			expectEffect(t, c, api.Inst{Op: op, A: register, B: register, C: register}, api.Effect{Cpu: with(next(c), register, want)})
			other := (register + 5) % 16
			expectEffect(t, c, api.Inst{Op: op, A: other, B: register, C: register}, api.Effect{Cpu: with(next(c), other, want)})
		}
	}
}
