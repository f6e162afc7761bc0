package isa

import (
	"encoding/binary"
	"fmt"
	"math/big"
	"strings"

	"debugger/api"
)

// The second implementation knows the instructions by their names, computes with numbers of any size, and keeps only the words of the memory that are not 0.

// names has the names of the operations, as the chapter lists them.
var names = strings.Split("nop, break, const, pool, move, add, sub, mul, div, mod, and, or, xor, less, lesseq, equal, notequal, addimm, load, store, jump, zero, call, return, print", ", ")

// name returns the name of an operation; "" if there is none such.
func name(op int) string {
	for k, n := range names {
		if op == k+1 {
			return n
		}
	}
	return ""
}

// outsideBits tells whether a number is not one of 32 bits, or not the number of a register.
func outsideBits(i api.Inst) bool {
	short := big.NewInt(int64(i.Imm))
	bound := new(big.Int).Lsh(big.NewInt(1), 31)
	if short.Cmp(bound) >= 0 || short.Cmp(new(big.Int).Neg(bound)) < 0 {
		return true
	}
	for _, n := range []int{i.A, i.B, i.C} {
		if n < 0 || n > 15 {
			return true
		}
	}
	return false
}

func reckonEncode(i api.Inst) (int, api.Errno) {
	if outsideBits(i) {
		return 0, api.ErrRange
	}
	if name(i.Op) == "" {
		return 0, api.ErrForm
	}
	b := binary.LittleEndian.AppendUint32([]byte{byte(i.Op), byte(i.A), byte(i.B), byte(i.C)}, uint32(i.Imm))
	return int(binary.LittleEndian.Uint64(b)), api.OK
}

func reckonDecode(w int) (api.Inst, api.Errno) {
	b := binary.LittleEndian.AppendUint64(nil, uint64(w))
	if name(int(b[0])) == "" || b[1] > 15 || b[2] > 15 || b[3] > 15 {
		return api.Inst{}, api.ErrForm
	}
	return api.Inst{Op: int(b[0]), A: int(b[1]), B: int(b[2]), C: int(b[3]), Imm: int(int32(binary.LittleEndian.Uint32(b[4:])))}, api.OK
}

// wrapped returns the 64 bits of a number.
func wrapped(n *big.Int) int {
	rest := new(big.Int).And(n, new(big.Int).SetUint64(1<<64-1))
	return int(rest.Uint64())
}

func sum(a, b int) int {
	return wrapped(new(big.Int).Add(big.NewInt(int64(a)), big.NewInt(int64(b))))
}

// compute returns what an operator makes of two numbers.
func compute(operator string, b, c int) int {
	x, y, z := big.NewInt(int64(b)), big.NewInt(int64(c)), new(big.Int)
	truth := func(holds bool) int {
		if holds {
			return 1
		}
		return 0
	}
	switch operator {
	case "add":
		return wrapped(z.Add(x, y))
	case "sub":
		return wrapped(z.Sub(x, y))
	case "mul":
		return wrapped(z.Mul(x, y))
	case "div":
		if c == 0 {
			return 0
		}
		return wrapped(z.Quo(x, y))
	case "mod":
		if c == 0 {
			return b
		}
		return wrapped(z.Rem(x, y))
	case "and":
		return wrapped(z.And(x, y))
	case "or":
		return wrapped(z.Or(x, y))
	case "xor":
		return wrapped(z.Xor(x, y))
	case "less":
		return truth(x.Cmp(y) < 0)
	case "lesseq":
		return truth(x.Cmp(y) <= 0)
	case "equal":
		return truth(x.Cmp(y) == 0)
	}
	return truth(x.Cmp(y) != 0)
}

func reckonReads(c api.Cpu, i api.Inst) (int, bool) {
	switch name(i.Op) {
	case "pool":
		return i.Imm, true
	case "load":
		base := 0
		for n, word := range c.R {
			if n == i.B {
				base = word
			}
		}
		return sum(base, i.Imm), true
	case "return":
		return c.R[14], true
	}
	return 0, false
}

func reckonExecute(c api.Cpu, i api.Inst, loaded int) (api.Effect, api.Errno) {
	if _, e := reckonEncode(i); e != api.OK || name(i.Op) == "break" {
		return api.Effect{}, api.ErrFault
	}
	e := api.Effect{Cpu: c}
	e.Cpu.PC = sum(c.PC, 1)
	a, b := c.R[i.A], c.R[i.B]
	switch n := name(i.Op); n {
	case "nop":
	case "const":
		e.Cpu.R[i.A] = i.Imm
	case "pool", "load":
		e.Cpu.R[i.A] = loaded
	case "move":
		e.Cpu.R[i.A] = b
	case "addimm":
		e.Cpu.R[i.A] = sum(b, i.Imm)
	case "store":
		e.Stores, e.Addr, e.Word = true, sum(b, i.Imm), a
	case "jump":
		e.Cpu.PC = i.Imm
	case "zero":
		e.Cpu.PC = map[bool]int{true: i.Imm, false: e.Cpu.PC}[a == 0]
	case "call":
		below := sum(c.R[14], -1)
		e.Cpu.R[14], e.Cpu.PC = below, i.Imm
		e.Stores, e.Addr, e.Word = true, below, sum(c.PC, 1)
	case "return":
		e.Cpu.R[14], e.Cpu.PC = sum(c.R[14], 1), loaded
	case "print":
		e.Prints, e.Print = true, a
	default:
		e.Cpu.R[i.A] = compute(n, b, c.R[i.C])
	}
	return e, api.OK
}

func reckonText(i api.Inst) string {
	if _, e := reckonEncode(i); e != api.OK {
		return "word"
	}
	n := name(i.Op)
	switch n {
	case "nop", "break", "return":
		return n
	case "const", "pool", "zero":
		return fmt.Sprintf("%s r%d %d", n, i.A, i.Imm)
	case "move":
		return fmt.Sprintf("%s r%d r%d", n, i.A, i.B)
	case "addimm", "load", "store":
		return fmt.Sprintf("%s r%d r%d %d", n, i.A, i.B, i.Imm)
	case "jump", "call":
		return fmt.Sprintf("%s %d", n, i.Imm)
	case "print":
		return fmt.Sprintf("%s r%d", n, i.A)
	}
	return fmt.Sprintf("%s r%d r%d r%d", n, i.A, i.B, i.C)
}

// history is a run of the second implementation: its outcome, the number of instructions that were executed, why it ended, and how many of them the program had stored itself.
type history struct {
	api.Outcome
	steps, own int
	why        string
}

func reckonRun(words []int, size, entry int, args []int, steps int) history {
	if size < len(words)+16 || size > 16384 || len(args) > 4 || steps < 0 || steps > 200000 {
		return history{Outcome: api.Outcome{Err: api.ErrArg}, why: "argument"}
	}
	c := api.Cpu{PC: entry}
	c.R[14] = size - 1
	memory, stored := map[int]int{size - 1: -1}, map[int]bool{}
	for k, w := range words {
		memory[k] = w
	}
	for k, n := range args {
		c.R[1+k] = n
	}
	h := history{}
	fails := func(e api.Errno, why string) history {
		h.Err, h.why = e, why
		return h
	}
	outside := func(addr int) bool { return addr < 0 || addr > size-1 }
	for ; c.PC != -1; h.steps++ {
		if h.steps == steps {
			return fails(api.ErrFuel, "fuel")
		}
		if outside(c.PC) {
			return fails(api.ErrFault, "counter")
		}
		i, e := reckonDecode(memory[c.PC])
		if e != api.OK {
			return fails(api.ErrFault, "word")
		}
		addr, reads := reckonReads(c, i)
		if reads && outside(addr) {
			return fails(api.ErrFault, "read")
		}
		f, e := reckonExecute(c, i, memory[addr])
		if e != api.OK {
			return fails(api.ErrFault, "break")
		}
		if f.Stores && outside(f.Addr) {
			return fails(api.ErrFault, "store")
		}
		if stored[c.PC] {
			h.own++
		}
		if f.Stores {
			memory[f.Addr], stored[f.Addr] = f.Word, true
		}
		if f.Prints {
			h.Output = append(h.Output, f.Print)
		}
		c = f.Cpu
	}
	h.why = "end"
	h.Value, h.Thrown = c.R[0], c.R[13] != 0
	return h
}
