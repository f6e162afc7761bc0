package isa

import (
	"debugger/api"
	"debugger/arithmetic"
)

// Reads returns the address that an instruction reads (beside its own word), and whether it reads one.
func Reads(c api.Cpu, i api.Inst) (int, bool) {
	switch i.Op {
	case api.InstPool:
		return i.Imm, true
	case api.InstLoad:
		if !register(i.B) {
			return i.Imm, true
		}
		return c.R[i.B] + i.Imm, true
	case api.InstReturn:
		return c.R[api.SP], true
	}
	return 0, false
}

// Execute returns the effect of an instruction; loaded is the word at the address that Reads returns.
func Execute(c api.Cpu, i api.Inst, loaded int) (api.Effect, api.Errno) {
	if !encoded(i) || i.Op == api.InstBreak {
		return api.Effect{}, api.ErrFault
	}
	e := api.Effect{Cpu: c}
	next := &e.Cpu
	next.PC++
	switch i.Op {
	case api.InstNop:
	case api.InstConst:
		next.R[i.A] = i.Imm
	case api.InstPool, api.InstLoad:
		next.R[i.A] = loaded
	case api.InstMove:
		next.R[i.A] = c.R[i.B]
	case api.InstAddImm:
		next.R[i.A] = c.R[i.B] + i.Imm
	case api.InstStore:
		store(&e, c.R[i.B]+i.Imm, c.R[i.A])
	case api.InstJump:
		next.PC = i.Imm
	case api.InstJumpZero:
		if c.R[i.A] == 0 {
			next.PC = i.Imm
		}
	case api.InstCall:
		next.R[api.SP]--
		store(&e, next.R[api.SP], next.PC)
		next.PC = i.Imm
	case api.InstReturn:
		next.PC = loaded
		next.R[api.SP]++
	case api.InstPrint:
		e.Prints, e.Print = true, c.R[i.A]
	default:
		next.R[i.A] = arithmetic.Value(i.Op-api.InstAdd+api.ExprAdd, c.R[i.B], c.R[i.C])
	}
	return e, api.OK
}

// store notes that an effect stores a word at an address.
func store(e *api.Effect, addr, word int) {
	e.Stores, e.Addr, e.Word = true, addr, word
}
