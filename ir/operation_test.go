package ir

import (
	"fmt"
	"strings"
	"testing"

	"debugger/api"
)

// numbers are those that a field may and may not have.
type numbers struct{ good, bad []int }

var (
	unused = numbers{[]int{0}, []int{-1, 1, 2, 5, least, greatest}}
	// In the code of TestOperations, the operation in question has the place 1 and the number 4 (if it defines a value).
	dst   = numbers{[]int{4, 2, 6, 9999}, []int{least, -1, 0, 1, 3, 5, 10000, greatest}}
	value = numbers{[]int{0, 1, 3}, []int{least, -1, 2, 4, 5, 6, 10000, greatest}}
	// A value that is defined at any place.
	anywhere = numbers{[]int{0, 1, 3, 5}, []int{least, -1, 2, 4, 6, 10000, greatest}}
	object   = numbers{[]int{0, 1}, []int{least, -1, 2, greatest}}
	context  = numbers{[]int{0, 1, 2}, []int{least, -1, 3, greatest}}
	stmt     = numbers{[]int{0, 1, 200, 9999}, []int{least, -1, 10000, greatest}}
	variable = numbers{[]int{0, 1, 23}, []int{least, -1, 24, greatest}}
	part     = numbers{[]int{0, 1, 3}, []int{least, -1, 4, greatest}}
	entry    = numbers{[]int{0, 1, 2}, []int{least, -1, 3, greatest}}
	any64    = numbers{[]int{0, 1, -1, 10000, least, greatest}, nil}
)

// fields are the names of an operation's fields.
var fields = []string{"Dst", "A", "B", "N", "Ctx", "Var", "Piece", "Src.Kind", "Src.Val", "Src.Add"}

// uses returns what the fields of an operation may be; the ones that are left out are not used.
func uses(kind, src int) map[string]numbers {
	switch {
	case kind == api.OpConst:
		return map[string]numbers{"Dst": dst, "N": any64}
	case kind == api.OpCopy:
		return map[string]numbers{"Dst": dst, "A": value}
	case kind >= api.OpAdd && kind <= api.OpNotEqual:
		return map[string]numbers{"Dst": dst, "A": value, "B": value}
	case kind == api.OpLoad:
		return map[string]numbers{"Dst": dst, "N": object, "A": value}
	case kind == api.OpStore:
		return map[string]numbers{"N": object, "A": value, "B": value}
	case kind == api.OpZero:
		return map[string]numbers{"N": object}
	case kind == api.OpPrint:
		return map[string]numbers{"A": value}
	case kind == api.OpMark, kind == api.OpAt:
		return map[string]numbers{"N": stmt, "Ctx": context}
	}
	bind := map[string]numbers{"Ctx": context, "Var": variable, "Piece": part}
	bind["Src.Kind"] = numbers{[]int{src}, []int{least, -1, 4, greatest}}
	switch src {
	case api.SrcConstant:
		bind["Src.Add"] = any64
	case api.SrcValue:
		bind["Src.Val"], bind["Src.Add"] = anywhere, any64
	case api.SrcEntry:
		bind["Src.Val"], bind["Src.Add"] = entry, any64
	}
	return bind
}

// field returns a field of an operation by its name.
func field(o *api.Op, name string) *int {
	return map[string]*int{"Dst": &o.Dst, "A": &o.A, "B": &o.B, "N": &o.N, "Ctx": &o.Ctx, "Var": &o.Var, "Piece": &o.Piece,
		"Src.Kind": &o.Src.Kind, "Src.Val": &o.Src.Val, "Src.Add": &o.Src.Add}[name]
}

// Each field of each kind of operation has each number that it may have, at least, and some that it may not have.
func TestOperations(t *testing.T) {
	for kind := api.OpConst; kind <= api.OpBind; kind++ {
		for src := range 4 {
			if src > 0 && kind != api.OpBind {
				continue
			}
			o := api.Op{Kind: kind, Src: api.Src{Kind: src}}
			allowed := uses(kind, src)
			if _, defines := allowed["Dst"]; defines {
				o.Dst = 4
			}
			for _, name := range fields {
				n, used := allowed[name]
				if !used {
					n = unused
				}
				expectFields(t, o, name, n.good, api.OK)
				expectFields(t, o, name, n.bad, api.ErrForm)
			}
		}
	}
}

// expectFields checks the error of a code with an operation one of whose fields has each of some numbers.
func expectFields(t *testing.T, o api.Op, name string, list []int, want api.Errno) {
	t.Helper()
	for _, n := range list {
		*field(&o, name) = n
		// A function with 3 parameters has in block 1, with 2 of them, the value 3 ahead of the operation and 5 behind it.
		c := code(t, "context 0 1 0\ncontext 0 1 0\nobject 0 0 1\nobject 0 1 1\n(3) jump 1(v0 v0)\n(2) v3 = 1; mark 0; v5 = 2; return v0")
		c.Blocks[1].Ops[1] = o
		expectCode(t, fmt.Sprintf("%+v", o), c, want)
	}
}

func TestKinds(t *testing.T) {
	for _, kind := range []int{least, -1, 0, api.OpBind + 1, greatest} {
		for _, o := range []api.Op{{}, {Dst: 2}, {Dst: 2, A: 1, B: 1}, {A: 1}, {N: 1}} {
			o.Kind = kind
			c := code(t, "(2) return v0")
			c.Blocks[0].Ops = []api.Op{o}
			expectCode(t, fmt.Sprintf("%+v", o), c, api.ErrForm)
		}
	}
}

// What a block has is its own.
func TestValues(t *testing.T) {
	for text, want := range map[string]api.Errno{
		"(1) v1 = 1; jump 1(v1)\n(1) return v0":                    api.OK,
		"(1) v1 = 1; jump 1(v1)\n(1) return v1":                    api.ErrForm,
		"(1) v1 = 1; jump 1(v1)\n(1) v1 = 2; return v1":            api.OK,
		"(1) jump 1()\n(0) return v0":                              api.ErrForm,
		"(1) jump 1()\n(0) bind 0 to v0; v1 = 1; return v1":        api.ErrForm,
		"(1) jump 1()\n(0) bind 0 to entry 0; v1 = 1; return v1":   api.OK,
		"(1) jump 1()\n(0) bind 0 to entry 1; v1 = 1; return v1":   api.ErrForm,
		"(0) jump 1()\n(0) v0 = 1; return v0":                      api.OK,
		"(0) v0 = 1; bind 0 to entry 0; return v0":                 api.ErrForm,
		"(0) v0 = 1; v0 = 2; return v0":                            api.ErrForm,
		"(0) v0 = 1; v1 = 1; v0 = copy v1; return v0":              api.ErrForm,
		"(0) v0 = 1; v1 = load 0 v0; return v0":                    api.ErrForm,
		"(0) v1 = 1; v0 = copy v1; return v0":                      api.OK,
		"(0) v1 = copy v0; v0 = 1; return v0":                      api.ErrForm,
		"(0) v0 = copy v0; return v0":                              api.ErrForm,
		"(0) v0 = v0 + v0; return v0":                              api.ErrForm,
		"(1) v1 = v0 + v1; return v0":                              api.ErrForm,
		"(1) v1 = v1 + v0; return v0":                              api.ErrForm,
		"(0) print v0; v0 = 1; return v0":                          api.ErrForm,
		"(0) v0 = 1; print v0; return v0":                          api.OK,
		"object 0 0 1\n(1) store 0 v0 v1; v1 = 1; return v0":       api.ErrForm,
		"object 0 0 1\n(1) store 0 v1 v0; v1 = 1; return v0":       api.ErrForm,
		"object 0 0 1\n(1) v1 = 1; store 0 v1 v1; return v0":       api.OK,
		"(0) bind 0 to v0; v0 = 1; return v0":                      api.OK,
		"(0) bind 0 to v1; v0 = 1; return v0":                      api.ErrForm,
		"(0) v0 = 1; jump 1()\n(0) bind 0 to v0; v1 = 1; throw v1": api.ErrForm,
	} {
		expectCode(t, text, code(t, text), want)
	}
	expectCode(t, "many values", code(t, "(0) "+strings.Join(definitions(9000, 9999), "; ")+"; return v9999"), api.OK)
	expectCode(t, "one value too high", code(t, "(0) "+strings.Join(definitions(9001, 10000), "; ")+"; return v9999"), api.ErrForm)
}

func definitions(from, to int) []string {
	list := []string{}
	for v := from; v <= to; v++ {
		list = append(list, fmt.Sprintf("v%d = %d", v, v))
	}
	return list
}
