package ir

import (
	"fmt"
	"testing"

	"debugger/api"
)

// around is a code of a function with 1 parameter whose block 1, with the parameters 0 and 1 and the values 3 and 4, ends with a terminator. Block 2 has no parameter, block 3 one, block 4 two.
const around = "(1) jump 1(v0 v0)\n(2) v3 = 1; v4 = 2; %s\n(0) v0 = 1; return v0\n(1) return v0\n(2) return v1\n"

func TestTerminators(t *testing.T) {
	for term, want := range map[string]api.Errno{
		"jump 2()":         api.OK,
		"jump 3(v0)":       api.OK,
		"jump 3(v4)":       api.OK,
		"jump 4(v1 v3)":    api.OK,
		"jump 1(v1 v1)":    api.OK,
		"jump 0(v0)":       api.ErrForm,
		"jump 5()":         api.ErrForm,
		"jump -1()":        api.ErrForm,
		"jump -2()":        api.ErrForm,
		"jump 2(v0)":       api.ErrForm,
		"jump 3()":         api.ErrForm,
		"jump 3(v0 v0)":    api.ErrForm,
		"jump 4(v0)":       api.ErrForm,
		"jump 4(v0 v0 v0)": api.ErrForm,
		"jump 3(v2)":       api.ErrForm,
		"jump 3(v5)":       api.ErrForm,
		"jump 3(v-1)":      api.ErrForm,
		"jump 4(v0 v2)":    api.ErrForm,

		"branch v0 2() 2()":        api.OK,
		"branch v4 3(v3) 4(v0 v1)": api.OK,
		"branch v2 2() 2()":        api.ErrForm,
		"branch v5 2() 2()":        api.ErrForm,
		"branch v-1 2() 2()":       api.ErrForm,
		"branch v0 0(v0) 2()":      api.ErrForm,
		"branch v0 2() 0(v0)":      api.ErrForm,
		"branch v0 5() 2()":        api.ErrForm,
		"branch v0 2() 5()":        api.ErrForm,
		"branch v0 -1() 2()":       api.ErrForm,
		"branch v0 2() -1()":       api.ErrForm,
		"branch v0 2(v0) 2()":      api.ErrForm,
		"branch v0 2() 2(v0)":      api.ErrForm,
		"branch v0 3() 2()":        api.ErrForm,
		"branch v0 2() 3()":        api.ErrForm,
		"branch v0 3(v2) 2()":      api.ErrForm,
		"branch v0 2() 3(v2)":      api.ErrForm,

		"call 0(v0) 3()":             api.OK,
		"call 7(v4 v3 v1 v0) 4(v4)":  api.OK,
		"call 7() 3() 3()":           api.OK,
		"call 7() 1(v0) 4(v3)":       api.OK,
		"call 8() 3()":               api.ErrForm,
		"call -1() 3()":              api.ErrForm,
		"call 0(v0 v0 v0 v0 v0) 3()": api.ErrForm,
		"call 0(v2) 3()":             api.ErrForm,
		"call 0(v0 v5) 3()":          api.ErrForm,
		"call 0() 2()":               api.ErrForm,
		"call 0() 3(v0)":             api.ErrForm,
		"call 0() 4()":               api.ErrForm,
		"call 0() 4(v0 v1)":          api.ErrForm,
		"call 0() 4(v2)":             api.ErrForm,
		"call 0() 0()":               api.ErrForm,
		"call 0() 5()":               api.ErrForm,
		"call 0() -1()":              api.ErrForm,
		"call 0() 3() 2()":           api.ErrForm,
		"call 0() 3() 3(v0)":         api.ErrForm,
		"call 0() 3() 4()":           api.ErrForm,
		"call 0() 3() 4(v0 v1)":      api.ErrForm,
		"call 0() 3() 4(v2)":         api.ErrForm,
		"call 0() 3() 0()":           api.ErrForm,
		"call 0() 3() 5()":           api.ErrForm,
		"call 0() 3() -1(v0)":        api.ErrForm,
		"call 0() 3() -2()":          api.ErrForm,

		"return v0":  api.OK,
		"return v4":  api.OK,
		"return v2":  api.ErrForm,
		"return v5":  api.ErrForm,
		"return v-1": api.ErrForm,
		"throw v1":   api.OK,
		"throw v3":   api.OK,
		"throw v2":   api.ErrForm,
		"throw v5":   api.ErrForm,

		"tail 0()":               api.OK,
		"tail 7(v0 v1 v3 v4)":    api.OK,
		"tail 8()":               api.ErrForm,
		"tail -1()":              api.ErrForm,
		"tail 0(v0 v0 v0 v0 v0)": api.ErrForm,
		"tail 0(v2)":             api.ErrForm,
		"tail 0(v0 v5)":          api.ErrForm,
	} {
		expectCode(t, term, code(t, fmt.Sprintf(around, term)), want)
	}
}

// What the kind of a terminator does not use is 0 or empty, and an edge that it does not use leads nowhere.
func TestFieldsOfTerminators(t *testing.T) {
	changes := map[string]func(*api.Term){
		"A 1":                           func(x *api.Term) { x.A = 1 },
		"A -1":                          func(x *api.Term) { x.A = -1 },
		"N 1":                           func(x *api.Term) { x.N = 1 },
		"N -1":                          func(x *api.Term) { x.N = -1 },
		"Args":                          func(x *api.Term) { x.Args = []int{0} },
		"edge 0":                        func(x *api.Term) { x.To[0] = api.Edge{Block: 2} },
		"edge 0 is zero":                func(x *api.Term) { x.To[0] = api.Edge{} },
		"edge 0 is -2":                  func(x *api.Term) { x.To[0] = api.Edge{Block: -2} },
		"edge 0 is none with arguments": func(x *api.Term) { x.To[0] = api.Edge{Block: -1, Args: []int{0}} },
		"edge 1":                        func(x *api.Term) { x.To[1] = api.Edge{Block: 2} },
		"edge 1 is zero":                func(x *api.Term) { x.To[1] = api.Edge{} },
		"edge 1 is -2":                  func(x *api.Term) { x.To[1] = api.Edge{Block: -2} },
		"edge 1 is none with arguments": func(x *api.Term) { x.To[1] = api.Edge{Block: -1, Args: []int{0}} },
	}
	for term, good := range map[string]string{
		"jump 2()":          "edge 0",
		"branch v0 2() 2()": "A 1, edge 0, edge 1",
		"call 0() 3()":      "N 1, Args",
		"call 0() 3() 3()":  "N 1, Args",
		"return v0":         "A 1",
		"throw v0":          "A 1",
		"tail 0()":          "N 1, Args",
	} {
		for name, change := range changes {
			c, want := code(t, fmt.Sprintf(around, term)), api.ErrForm
			change(&c.Blocks[1].Term)
			if contains(good, name) {
				want = api.OK
			}
			expectCode(t, term+" with "+name, c, want)
		}
	}
	for _, kind := range []int{least, -1, 0, api.TermTail + 1, greatest} {
		for _, term := range []string{"jump 2()", "branch v0 2() 2()", "call 0() 3()", "return v0", "tail 0()"} {
			c := code(t, fmt.Sprintf(around, term))
			c.Blocks[1].Term.Kind = kind
			expectCode(t, fmt.Sprintf("%s with the kind %d", term, kind), c, api.ErrForm)
		}
		c := code(t, fmt.Sprintf(around, "return v0"))
		c.Blocks[1].Term = api.Term{Kind: kind}
		expectCode(t, fmt.Sprintf("nothing but the kind %d", kind), c, api.ErrForm)
	}
}
