package checker

import (
	"fmt"
	"slices"
	"strconv"
	"strings"
	"testing"

	"debugger/api"
	"debugger/lexer"
	"debugger/parser"
)

// key returns a text that two values have in common only if they are the same; nil and empty slices are.
func key(v any) string { return fmt.Sprintf("%+v", v) }

func parsed(t *testing.T, text string) api.Program {
	t.Helper()
	p, line, e := parser.Parse(text)
	if e != api.OK {
		t.Fatalf("%.300q is no program: error %d in line %d", text, e, line)
	}
	return p
}

// accept returns the source of a text that has no error.
func accept(t *testing.T, promise, text string) api.Source {
	t.Helper()
	s, line, e := Check(parsed(t, text))
	if line != 0 || e != api.OK {
		t.Errorf("%s: Check of %.300q has the error %d in line %d", promise, text, e, line)
	}
	return s
}

// refuseAt checks that a text, each of its tokens in a line of its own, has this error in the line of its token behind "@", or in the line 0 if it has no "@".
func refuseAt(t *testing.T, promise, text string, want api.Errno) {
	t.Helper()
	line := 0
	ahead, behind, ok := strings.Cut(text, "@")
	if ok {
		line = len(split(ahead)) + 1
	}
	p := parsed(t, strings.Join(append(split(ahead), split(behind)...), "\n"))
	s, l, e := Check(p)
	if l != line || e != want {
		t.Errorf("%s: Check of %.400q has the error %d in line %d, not %d in line %d", promise, text, e, l, want, line)
	}
	if key(s) != key(api.Source{}) {
		t.Errorf("P4: Check of %.400q has the error %d and a source", text, e)
	}
}

// split returns the texts of the tokens of a text.
func split(text string) []string {
	tokens, _, e := lexer.Scan(text)
	if e != api.OK {
		panic("no tokens: " + text)
	}
	list := []string{}
	for _, t := range tokens[:len(tokens)-1] {
		if t.Kind == api.TokenNumber {
			t.Text = strconv.Itoa(t.Number)
		}
		list = append(list, t.Text)
	}
	return list
}

// records are the record types of the programs that withNames returns.
const records = "record R { a, b } record S { c } "

// withNames returns the text of a program whose function main has these statements behind declarations of i, j (scalars), r (of R), s (of S) and t (an array), and that has functions of 0 to 4 parameters.
func withNames(statements string) string {
	return records + "func f0() {} func f1(a) {} func main(i, j) { var r: R; var s: S; var t: int[3]; " + statements + " } func f2(a, b) {} func f3(a, b, c) {} func f4(a, b, c, d) {}"
}

// scopes returns the variables of a function with From and To.
func scopes(s api.Source, f int) string {
	list := []string{}
	for _, v := range s.Vars[f] {
		list = append(list, fmt.Sprintf("%s %d-%d", v.Name, v.From, v.To))
	}
	return strings.Join(list, ", ")
}

// statements returns all statements of a program in the order of the text.
func statements(p api.Program) []api.Stmt {
	list := []api.Stmt{}
	for _, f := range p.Funcs {
		list = append(list, within(f.Body)...)
	}
	return list
}

func within(block []api.Stmt) []api.Stmt {
	list := []api.Stmt{}
	for _, s := range block {
		list = append(list, s)
		list = append(list, within(s.Body)...)
		list = append(list, within(s.Else)...)
	}
	return list
}

// expressions returns all expressions of a statement, those within others behind these.
func expressions(s api.Stmt) []api.Expr {
	list := slices.Concat(s.Target, s.Args)
	for i := 0; i < len(list); i++ {
		list = append(list, list[i].Args...)
	}
	return list
}

// repeated returns a text so many times, with the numbers from 0 on in place of "#".
func repeated(text string, times int) string {
	list := []string{}
	for i := range times {
		list = append(list, strings.ReplaceAll(text, "#", strconv.Itoa(i)))
	}
	return strings.Join(list, "")
}
