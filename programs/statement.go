package programs

import (
	"strconv"
	"strings"
)

// deepest is how many blocks a statement with blocks of its own may lie in.
const deepest = 4

func (w *writer) statement(blocks int) {
	choice := w.choose(17)
	if blocks > deepest && choice >= 11 {
		choice = w.choose(11)
	}
	switch choice {
	case 0, 1:
		w.declaration()
	case 2, 3, 4, 5:
		if x := w.place("iaRS", 2); x != "" {
			w.add(x, " = ", w.expression(3), "; ")
		}
	case 6, 7, 8:
		w.call()
	case 9:
		w.add(w.pick("print", "print", "print", "return", "throw"), " ", w.expression(3), "; ")
	case 10:
		w.add("print ", w.expression(2), "; ")
	case 11, 12:
		w.branch(blocks)
	case 13, 14:
		w.loop(blocks)
	default:
		w.try(blocks)
	}
}

func (w *writer) declaration() {
	if w.next >= mostVars {
		return
	}
	kind := w.pick("i", "a", "R", "S")
	size := "int[" + strconv.Itoa(1+w.choose(5)) + "]"
	name := w.declare(kind)
	w.add("var ", name, ": ", map[string]string{"i": "int", "a": size, "R": "R", "S": "S"}[kind], "; ")
}

func (w *writer) branch(blocks int) {
	w.add("if ", w.expression(2), " ")
	w.block(blocks + 1)
	if w.choose(2) == 0 {
		w.add("else ")
		w.block(blocks + 1)
	}
}

// loop writes a while that mostly counts.
func (w *writer) loop(blocks int) {
	x := w.place("i", 0)
	if x == "" || w.choose(4) == 0 {
		w.add("while ", w.expression(2), " ")
		w.block(blocks + 1)
		return
	}
	w.add(x, " = ", strconv.Itoa(w.choose(4)), "; while ", x, " { ", x, " = ", x, " - 1; if 1 ")
	w.block(blocks + 2)
	w.add("} ")
}

func (w *writer) try(blocks int) {
	if w.next >= mostVars {
		return
	}
	w.add("try ")
	w.block(blocks + 1)
	w.add("catch ", w.declare("i"), " ")
	w.block(blocks + 1)
	w.names = w.names[:len(w.names)-1]
}

// call writes one, mostly of a function behind this one.
func (w *writer) call() {
	f := min(w.f+1+w.choose(2), len(w.params)-1)
	if w.choose(5) == 0 {
		f = w.choose(len(w.params))
	}
	list := []string{}
	for range w.params[f] {
		list = append(list, w.expression(2))
	}
	target := w.pick("", "return ", "x = ")
	if target == "x = " {
		target = w.place("i", 0)
		if target != "" {
			target += " = "
		}
	}
	w.add(target, "f", strconv.Itoa(f), "(", strings.Join(list, ", "), "); ")
}

// place returns a variable, a field or an element of one of these kinds, or "" if there is none.
func (w *writer) place(kinds string, depth int) string {
	fits := []string{}
	for _, n := range w.names {
		if strings.Contains(kinds, n[:1]) {
			fits = append(fits, n)
		}
	}
	if len(fits) == 0 {
		return ""
	}
	name := w.pick(fits...)
	switch name[:1] {
	case "a":
		if depth == 0 || w.choose(2) == 0 {
			return name[1:] + "[" + strconv.Itoa(w.choose(3)) + "]"
		}
		return name[1:] + "[" + w.expression(depth-1) + "]"
	case "R", "S":
		return name[1:] + "." + w.pick("x", "y")
	}
	return name[1:]
}

func (w *writer) expression(depth int) string {
	if depth == 0 {
		return w.pick("0", "1", "2", "3", "7", "999999999999999999")
	}
	switch w.choose(8) {
	case 0, 1, 2:
		if x := w.place("iaRS", depth); x != "" {
			return x
		}
	case 3:
		return w.pick("-", "!") + w.expression(depth-1)
	case 4, 5, 6:
		return "(" + w.expression(depth-1) + " " + w.pick(strings.Fields(signs)...) + " " + w.expression(depth-1) + ")"
	}
	return w.expression(depth - 1)
}
