// Package programs writes programs of the source language by chance, for the tests of the layers.
package programs

import (
	"strconv"
	"strings"

	"debugger/api"
)

// signs are the operators with two operands.
const signs = "+ - * / % & | ^ < <= == !="

// mostVars is how many variables a function has before it declares no more.
const mostVars = 20

// writer writes a program.
type writer struct {
	choose func(n int) int
	text   strings.Builder
	room   int      // how many more statements there may be
	f      int      // the function that is written
	params []int    // how many each function has
	names  []string // in scope, each with the letter of its kind in front: i, a (array), R or S (record)
	next   int      // the number of the next variable of the function
}

// Text returns the text of a program that checker.Check accepts unless it is too long, and how many parameters each of its functions has. What is written depends on what choose chooses: a number from 0 to n - 1.
func Text(choose func(n int) int) (string, []int) {
	w := &writer{choose: choose}
	w.room = 10 + choose(50)
	w.add("record R { x, y } record S { z, y, x } ")
	for range 1 + choose(4) {
		w.params = append(w.params, choose(api.MaxParams+1))
	}
	for f, params := range w.params {
		w.function(f, params)
	}
	return w.text.String(), w.params
}

func (w *writer) add(parts ...string) { w.text.WriteString(strings.Join(parts, "")) }

func (w *writer) pick(list ...string) string { return list[w.choose(len(list))] }

func (w *writer) function(f, params int) {
	w.f, w.names, w.next = f, nil, 0
	list := []string{}
	for range params {
		list = append(list, w.declare("i"))
	}
	w.add("func f", strconv.Itoa(f), "(", strings.Join(list, ", "), ") ")
	w.block(1)
}

// declare returns the name of a new variable of a kind.
func (w *writer) declare(kind string) string {
	name := "v" + strconv.Itoa(w.next)
	w.next++
	w.names = append(w.names, kind+name)
	return name
}

// block writes a block that lies in so many blocks, itself included.
func (w *writer) block(blocks int) {
	size := len(w.names)
	w.add("{ ")
	for range 1 + w.choose(6) {
		if w.room > 0 {
			w.room--
			w.statement(blocks)
		}
	}
	w.add("} ")
	w.names = w.names[:size]
}
