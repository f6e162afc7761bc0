package interp

import (
	"fmt"
	"math/rand/v2"
	"strconv"
	"strings"
	"testing"

	"debugger/api"
)

// writer makes programs by chance, always the same ones.
type writer struct {
	*rand.Rand
	text   strings.Builder
	room   int      // how many more statements there may be
	f      int      // the function that is written
	params []int    // how many each function has
	names  []string // in scope, each with the letter of its kind in front: i, a (array), R or S (record)
	next   int      // the number of the next variable of the function
}

func (w *writer) add(parts ...string) { w.text.WriteString(strings.Join(parts, "")) }

func (w *writer) pick(list ...string) string { return list[w.IntN(len(list))] }

func (w *writer) program() string {
	w.text.Reset()
	w.room = 10 + w.IntN(50)
	w.add("record R { x, y } record S { z, y, x } ")
	w.params = nil
	for range 1 + w.IntN(4) {
		w.params = append(w.params, w.IntN(api.MaxParams+1))
	}
	for f, params := range w.params {
		w.f, w.names, w.next = f, nil, 0
		list := []string{}
		for range params {
			list = append(list, w.declare("i"))
		}
		w.add("func f", strconv.Itoa(f), "(", strings.Join(list, ", "), ") ")
		w.block(1)
	}
	return w.text.String()
}

// declare returns the name of a new variable of a kind.
func (w *writer) declare(kind string) string {
	name := "v" + strconv.Itoa(w.next)
	w.next++
	w.names = append(w.names, kind+name)
	return name
}

func (w *writer) block(blocks int) {
	size := len(w.names)
	w.add("{ ")
	for range 1 + w.IntN(6) {
		if w.room > 0 {
			w.room--
			w.statement(blocks)
		}
	}
	w.add("} ")
	w.names = w.names[:size]
}

func (w *writer) statement(blocks int) {
	choice := w.IntN(17)
	if blocks >= 5 && choice >= 11 {
		choice = w.IntN(11)
	}
	switch choice {
	case 0, 1:
		if w.next < 20 {
			kind := w.pick("i", "a", "R", "S")
			size := "int[" + strconv.Itoa(1+w.IntN(5)) + "]"
			name := w.declare(kind)
			w.add("var ", name, ": ", map[string]string{"i": "int", "a": size, "R": "R", "S": "S"}[kind], "; ")
		}
	case 2, 3, 4, 5:
		if x := w.place("iaRS", 2); x != "" {
			w.add(x, " = ", w.expression(3), "; ")
		}
	case 6, 7, 8:
		w.call()
	case 9:
		w.add(w.pick("print", "print", "print", "return", "throw"), " ", w.expression(3), "; ")
	case 10:
		w.add("print ", w.expression(2), "; ")
	case 11, 12:
		w.add("if ", w.expression(2), " ")
		w.block(blocks + 1)
		if w.IntN(2) == 0 {
			w.add("else ")
			w.block(blocks + 1)
		}
	case 13, 14:
		w.loop(blocks)
	default:
		w.try(blocks)
	}
}

// loop writes a while that mostly counts.
func (w *writer) loop(blocks int) {
	x := w.place("i", 0)
	if x == "" || w.IntN(4) == 0 {
		w.add("while ", w.expression(2), " ")
		w.block(blocks + 1)
		return
	}
	w.add(x, " = ", strconv.Itoa(w.IntN(4)), "; while ", x, " { ", x, " = ", x, " - 1; if 1 ")
	w.block(blocks + 2)
	w.add("} ")
}

func (w *writer) try(blocks int) {
	if w.next >= 20 {
		return
	}
	w.add("try ")
	w.block(blocks + 1)
	w.add("catch ", w.declare("i"), " ")
	w.block(blocks + 1)
	w.names = w.names[:len(w.names)-1]
}

// call writes one, mostly of a function behind this one.
func (w *writer) call() {
	f := min(w.f+1+w.IntN(2), len(w.params)-1)
	if w.IntN(5) == 0 {
		f = w.IntN(len(w.params))
	}
	list := []string{}
	for range w.params[f] {
		list = append(list, w.expression(2))
	}
	target := w.pick("", "return ", "x = ")
	if target == "x = " {
		target = w.place("i", 0)
		if target != "" {
			target += " = "
		}
	}
	w.add(target, "f", strconv.Itoa(f), "(", strings.Join(list, ", "), "); ")
}

// place returns a variable, a field or an element of one of these kinds, or "" if there is none.
func (w *writer) place(kinds string, depth int) string {
	fits := []string{}
	for _, n := range w.names {
		if strings.Contains(kinds, n[:1]) {
			fits = append(fits, n)
		}
	}
	if len(fits) == 0 {
		return ""
	}
	name := w.pick(fits...)
	switch name[:1] {
	case "a":
		if depth == 0 || w.IntN(2) == 0 {
			return name[1:] + "[" + strconv.Itoa(w.IntN(3)) + "]"
		}
		return name[1:] + "[" + w.expression(depth-1) + "]"
	case "R", "S":
		return name[1:] + "." + w.pick("x", "y")
	}
	return name[1:]
}

func (w *writer) expression(depth int) string {
	if depth == 0 {
		return w.pick("0", "1", "2", "3", "7", "999999999999999999")
	}
	switch w.IntN(8) {
	case 0, 1, 2:
		if x := w.place("iaRS", depth); x != "" {
			return x
		}
	case 3:
		return w.pick("-", "!") + w.expression(depth-1)
	case 4, 5, 6:
		return "(" + w.expression(depth-1) + " " + w.pick(signs...) + " " + w.expression(depth-1) + ")"
	}
	return w.expression(depth - 1)
}

func TestProgramsByChance(t *testing.T) {
	w := &writer{Rand: rand.New(rand.NewPCG(7, 8))}
	found := map[string]int{}
	deepest := 0
	for range 4000 {
		text := w.program()
		if len(text) > api.MaxText {
			continue
		}
		s := source(t, text)
		f := w.IntN(len(w.params))
		args := []int{}
		for range w.params[f] {
			args = append(args, edges[w.IntN(len(edges))])
		}
		steps := []int{20, 100, 300}[w.IntN(3)]
		events, o := whole(s, f, args, steps)
		wants, want := reckon(s, f, args, steps)
		if key(events) != key(wants) || key(o) != key(want) {
			t.Fatalf("P5.2: %s\nwith %v of f%d, %d steps: %d events and %s, not %d and %s", strings.ReplaceAll(text, "; ", ";\n"), args, f, steps, len(events), describe(o), len(wants), describe(want))
		}
		for _, e := range events {
			deepest = max(deepest, len(e.Frames))
		}
		found[fmt.Sprintf("error %d thrown %v", o.Err, o.Thrown)]++
	}
	t.Logf("runs: %v, at most %d activations", found, deepest)
	for _, kind := range []string{"error 0 thrown false", "error 0 thrown true", "error 13 thrown false", "error 5 thrown false"} {
		if found[kind] < 50 {
			t.Errorf("only %d runs have %s", found[kind], kind)
		}
	}
}
