package isa

import (
	"strconv"

	"debugger/api"
)

// written is how an instruction is written: its name, and which of its fields follow (n is Imm).
type written struct{ name, fields string }

// texts says how the instructions are written, from api.InstNop on.
var texts = [...]written{
	{"nop", ""},
	{"break", ""},
	{"const", "an"},
	{"pool", "an"},
	{"move", "ab"},
	{"add", "abc"},
	{"sub", "abc"},
	{"mul", "abc"},
	{"div", "abc"},
	{"mod", "abc"},
	{"and", "abc"},
	{"or", "abc"},
	{"xor", "abc"},
	{"less", "abc"},
	{"lesseq", "abc"},
	{"equal", "abc"},
	{"notequal", "abc"},
	{"addimm", "abn"},
	{"load", "abn"},
	{"store", "abn"},
	{"jump", "n"},
	{"zero", "an"},
	{"call", "n"},
	{"return", ""},
	{"print", "a"},
}

// Text returns an instruction in words.
func Text(i api.Inst) string {
	if !encoded(i) {
		return "word"
	}
	w := texts[i.Op-api.InstNop]
	text := w.name
	for _, f := range w.fields {
		text += " " + fieldText(i, f)
	}
	return text
}

// fieldText returns a field of an instruction in words.
func fieldText(i api.Inst, f rune) string {
	switch f {
	case 'a':
		return "r" + strconv.Itoa(i.A)
	case 'b':
		return "r" + strconv.Itoa(i.B)
	case 'c':
		return "r" + strconv.Itoa(i.C)
	}
	return strconv.Itoa(i.Imm)
}
