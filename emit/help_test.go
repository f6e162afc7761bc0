package emit

import (
	"fmt"
	"slices"
	"strconv"
	"strings"
	"testing"

	"debugger/api"
	"debugger/assembly"
	"debugger/duplicate"
	"debugger/ir"
	"debugger/isa"
	"debugger/passes"
)

const (
	greatest = 1<<63 - 1
	least    = -1 << 63
)

// lines returns texts with a line for each.
func lines(texts ...string) string { return strings.Join(texts, "\n") }

// number returns a word with a number behind it.
func number(word string, n int) string { return word + strconv.Itoa(n) }

// each returns a text for each number from one up to the one ahead of another.
func each(from, to int, text func(n int) string) string {
	all := ""
	for n := from; n < to; n++ {
		all += text(n)
	}
	return all
}

// constants returns the operations that define values as 1, from one up to the one ahead of another.
func constants(from, to int) string {
	return each(from, to, func(v int) string { return number("v", v) + " = 1; " })
}

// prints returns the operations that print values, from one up to the one ahead of another.
func prints(from, to int) string {
	return each(from, to, func(v int) string { return number("print v", v) + "; " })
}

// arguments returns so many arguments of an edge that are all the same value.
func arguments(v, count int) string { return strings.Repeat(number("v", v)+" ", count) }

// result returns the unit of a module, or its error, and checks that the module stays as it is.
func result(t *testing.T, m api.Module, keep bool) (api.Unit, api.Errno) {
	t.Helper()
	before := duplicate.Module(m)
	u, e := Emit(m, keep)
	if !passes.EqualModules(m, before) {
		t.Fatalf("P2: the argument is changed: %s", passes.PrintModule(before))
	}
	return u, e
}

// emitted returns the unit of a module of package notation, a text for each function.
func emitted(t *testing.T, keep bool, texts ...string) api.Unit {
	t.Helper()
	m := passes.ParseModule(t, texts...)
	if e := ir.Check(m); e != api.OK {
		t.Fatalf("the error of %s is %d", passes.PrintModule(m), e)
	}
	u, e := result(t, m, keep)
	if e != api.OK {
		t.Fatalf("P17.1: the error is %d for %s", e, passes.PrintModule(m))
	}
	return u
}

// expectWords checks the words of a unit from an address on, as a text of package assembly.
func expectWords(t *testing.T, promise string, u api.Unit, at int, want string) {
	t.Helper()
	words, ok := assembly.Words(want)
	if !ok {
		t.Fatalf("%s: there are no words for %q", promise, want)
	}
	if at+len(words) > len(u.Words) || !slices.Equal(u.Words[at:at+len(words)], words) {
		t.Errorf("%s: from %d on the code is not\n%s, but\n%s", promise, at, want, shown(u.Words[min(at, len(u.Words)):]))
	}
}

// shown returns words as a text.
func shown(words []int) string {
	texts := []string{}
	for _, w := range words {
		i, _ := isa.Decode(w)
		text := isa.Text(i)
		if text == "word" {
			text += fmt.Sprintf(" %d", w)
		}
		texts = append(texts, text)
	}
	return strings.Join(texts, "; ")
}

// expectCode checks all words of a module, whose code ends where its pool begins.
func expectCode(t *testing.T, promise string, keep bool, code, pool string, texts ...string) {
	t.Helper()
	u := emitted(t, keep, texts...)
	expectWords(t, promise, u, 0, code)
	expectWords(t, promise, u, u.Code, pool)
	words, _ := assembly.Words(code)
	constants, _ := assembly.Words(pool)
	if u.Code != len(words) || len(u.Words) != len(words)+len(constants) {
		t.Errorf("%s: %d words of code and %d in all: %s", promise, u.Code, len(u.Words), shown(u.Words))
	}
}

// expectBoth checks the words of a module without a pool, with keep and without, which has no Marks.
func expectBoth(t *testing.T, promise, code string, texts ...string) {
	t.Helper()
	expectCode(t, promise, false, code, "", texts...)
	expectCode(t, promise, true, code, "", texts...)
}

// expectText checks a part of a unit that is shown as a text.
func expectText(t *testing.T, promise, got, want string) {
	t.Helper()
	if got != want {
		t.Errorf("%s:\n%s, not\n%s", promise, got, want)
	}
}

func in(ctx int) string {
	if ctx == 0 {
		return ""
	}
	return number(" in ", ctx)
}

// rows shows the rows of a function: the address, the statement (* for a Mark) and the context, if it is another one than 0.
func rows(f api.FuncCode) string {
	texts := []string{}
	for _, r := range f.Rows {
		text := number("", r.Addr) + number(" ", r.Stmt)
		if r.Mark {
			text += "*"
		}
		texts = append(texts, text+in(r.Ctx))
	}
	return strings.Join(texts, "; ")
}

// places shows places: c7 is a constant, r1 a register, s0 a slot, e1 a register at the entry, each with what is added.
func places(list []api.Place) string {
	texts := []string{}
	for _, p := range list {
		text := number(map[int]string{0: "-", api.PlaceReg: "r", api.PlaceSlot: "s", api.PlaceEntry: "e"}[p.Kind], p.N)
		if p.Kind == api.PlaceConst && p.N == 0 {
			text = number("c", p.Add)
		} else if p.Add != 0 {
			text += number("+", p.Add)
		}
		if p == (api.Place{}) {
			text = "-"
		}
		texts = append(texts, text)
	}
	return strings.Join(texts, " ")
}

// ranges shows the ranges of a function: the addresses (also the one behind the last), the variable with a piece that is not 0 and a context that is not 0, and the places.
func ranges(f api.FuncCode) string {
	texts := []string{}
	for _, r := range f.Ranges {
		text := number("", r.Lo) + number("-", r.Hi) + number(" ", r.Var)
		if r.Piece != 0 {
			text += number(".", r.Piece)
		}
		texts = append(texts, text+in(r.Ctx)+": "+places(r.Places))
	}
	return strings.Join(texts, "; ")
}

// sites shows the sites of a function: the address, the callee (tail for a tail call), the statement and the context, and the places of the arguments.
func sites(f api.FuncCode) string {
	texts := []string{}
	for _, s := range f.Sites {
		text := number("", s.Addr) + number(" f", s.Callee)
		if s.Tail {
			text += " tail"
		}
		texts = append(texts, text+number(" ", s.Stmt)+in(s.Ctx)+": "+places(s.Args))
	}
	return strings.Join(texts, "; ")
}

// steps shows the steps of a function: addresses and offsets.
func steps(f api.FuncCode) string {
	texts := []string{}
	for _, s := range f.Steps {
		texts = append(texts, number("", s.Addr)+number(":", s.Offset))
	}
	return strings.Join(texts, " ")
}

// crowded returns the code of a function with block 1 in which the values 0 to 7 lie in R1 to R8, 8 to 10 in the slots 0 to 2, and 11 to 14 (which are 1) in R9 to R12. Behind these are operations, and then all values up to the one ahead of another are printed, so that they keep their places until then.
func crowded(ops string, last int, objects ...string) string {
	all := append(slices.Clone(objects), "(1) jump 1("+arguments(0, 11)+")", "(11) "+constants(11, 15)+ops+"; "+prints(0, last)+"return v0")
	return lines(all...)
}

// crowdedOps is where the operations of a crowded function begin.
const crowdedOps = 16
