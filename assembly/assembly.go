// Package assembly reads machine code as texts, for tests. It does not use package isa, so that it can test that.
package assembly

import (
	"strconv"
	"strings"

	"debugger/api"
)

// Words returns the words of a text: an instruction each, as isa.Text writes it, or "word" with a number; semicolons and ends of lines stand between them. Fields that are not written are 0. It also returns whether the text is right.
func Words(text string) ([]int, bool) {
	words := []int{}
	for _, line := range strings.Split(strings.ReplaceAll(text, "\n", ";"), ";") {
		parts := strings.Fields(line)
		if len(parts) == 0 {
			continue
		}
		w, ok := word(parts[0], parts[1:])
		if !ok {
			return nil, false
		}
		words = append(words, w)
	}
	return words, true
}

// word returns the word of a name with its operands.
func word(name string, operands []string) (int, bool) {
	if name == "word" {
		if len(operands) != 1 {
			return 0, false
		}
		n, e := strconv.Atoi(operands[0])
		return n, e == nil
	}
	op, fields, ok := instruction(name)
	if !ok || len(operands) != len(fields) {
		return 0, false
	}
	w := op
	for k, f := range []byte(fields) {
		n, ok := operand(f, operands[k])
		if !ok {
			return 0, false
		}
		w += n << place(f)
	}
	return w, true
}

// place returns the lowest bit of a field in a word.
func place(field byte) int {
	switch field {
	case 'a':
		return 8
	case 'b':
		return 16
	case 'c':
		return 24
	}
	return 32
}

// operand returns the number of an operand.
func operand(field byte, text string) (int, bool) {
	if field == 'n' {
		n, e := strconv.ParseInt(text, 10, 32)
		return int(n), e == nil
	}
	digits, ok := strings.CutPrefix(text, "r")
	n, e := strconv.Atoi(digits)
	return n, ok && e == nil && n >= 0 && n < api.Registers
}

// instruction returns the operation of a name, and the fields that it is written with (n is Imm).
func instruction(name string) (op int, fields string, ok bool) {
	switch name {
	case "nop":
		return api.InstNop, "", true
	case "break":
		return api.InstBreak, "", true
	case "const":
		return api.InstConst, "an", true
	case "pool":
		return api.InstPool, "an", true
	case "move":
		return api.InstMove, "ab", true
	case "addimm":
		return api.InstAddImm, "abn", true
	case "load":
		return api.InstLoad, "abn", true
	case "store":
		return api.InstStore, "abn", true
	case "jump":
		return api.InstJump, "n", true
	case "zero":
		return api.InstJumpZero, "an", true
	case "call":
		return api.InstCall, "n", true
	case "return":
		return api.InstReturn, "", true
	case "print":
		return api.InstPrint, "a", true
	}
	op, ok = operator(name)
	return op, "abc", ok
}

// operator returns the operation of the name of an operator.
func operator(name string) (op int, ok bool) {
	switch name {
	case "add":
		return api.InstAdd, true
	case "sub":
		return api.InstSub, true
	case "mul":
		return api.InstMul, true
	case "div":
		return api.InstDiv, true
	case "mod":
		return api.InstMod, true
	case "and":
		return api.InstAnd, true
	case "or":
		return api.InstOr, true
	case "xor":
		return api.InstXor, true
	case "less":
		return api.InstLess, true
	case "lesseq":
		return api.InstLessEq, true
	case "equal":
		return api.InstEqual, true
	case "notequal":
		return api.InstNotEqual, true
	}
	return 0, false
}
