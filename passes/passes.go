// Package passes has what the tests of the passes share: codes and runs by chance, and checks of what every pass promises.
package passes

import (
	"strconv"

	"debugger/api"
	"debugger/duplicate"
	"debugger/ir"
	"debugger/notation"
)

// Tester is a test that is told what is wrong; a *testing.T is one.
type Tester interface {
	Helper()
	Error(args ...any)
	Fatal(args ...any)
}

// Pass makes another code of a function's code.
type Pass func(api.Code) api.Code

// Parse returns the code of a text of package notation.
func Parse(t Tester, text string) api.Code {
	t.Helper()
	c, ok := notation.Parse(text)
	if !ok {
		t.Fatal(short(text) + " is no code")
	}
	return c
}

// Result returns what a pass makes of a sound code, and checks that this is sound as well and that the argument stays as it is.
func Result(t Tester, promise string, pass Pass, c api.Code) api.Code {
	t.Helper()
	if e := ir.CheckCode(c); e != api.OK {
		t.Fatal(promise + ": the error of " + shown(c) + "is " + number(e))
	}
	before := duplicate.Code(Stretched(c))
	got := pass(c)
	if !Equal(Stretched(c), before) {
		t.Fatal("P2: the argument " + shown(before) + "is changed")
	}
	if e := ir.CheckCode(got); e != api.OK {
		t.Error(promise + ": " + shown(c) + "becomes\n" + shown(got) + "whose error is " + number(e))
	}
	return got
}

// Applied returns the module of what a pass makes of a sound module's functions. It checks that this is what a second implementation of the pass makes of them, and sound.
func Applied(t Tester, promise string, pass, reckon Pass, m api.Module) api.Module {
	t.Helper()
	var result api.Module
	for _, c := range m.Funcs {
		got := Result(t, promise, pass, c)
		if want := reckon(c); !Equal(got, want) {
			t.Fatal(promise + ":\n" + notation.Print(c) + "becomes\n" + notation.Print(got) + "not\n" + notation.Print(want))
		}
		result.Funcs = append(result.Funcs, got)
	}
	if e := ir.Check(result); e != api.OK {
		t.Fatal(promise + ": the error of the module is " + number(e))
	}
	return result
}

// Expect checks what a pass makes of a code, both as texts of package notation.
func Expect(t Tester, promise string, pass Pass, from, want string) {
	t.Helper()
	got := Result(t, promise, pass, Parse(t, from))
	if !Equal(got, Parse(t, want)) {
		t.Error(promise + ":\n" + from + "\nbecomes\n" + notation.Print(got) + "not\n" + want)
	}
}

// shown returns a code as a text, or the beginning of a long one.
func shown(c api.Code) string { return short(notation.Print(c)) }

func short(text string) string { return text[:min(len(text), 400)] }

func number(e api.Errno) string { return strconv.Itoa(int(e)) }
