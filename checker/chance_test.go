package checker

import (
	"math/rand/v2"
	"slices"
	"strconv"
	"strings"
	"testing"

	"debugger/api"
	"debugger/parser"
)

// reference checks a program in another way: the variables in scope are a list that is handed on from statement to statement, and From and To follow from the statements that have a variable in their lists.
type reference struct {
	p     api.Program
	vars  [][]api.VarInfo
	next  []int // by variable of the function: the number of the statement behind its declaration
	stmts []api.StmtInfo
	lists [][]int // by statement: the variables in scope
}

// fault is what a reference panics with at the first error.
type fault struct {
	line int
	e    api.Errno
}

// reckon returns what Check should.
func reckon(p api.Program) (s api.Source, line int, e api.Errno) {
	defer func() {
		if f, ok := recover().(fault); ok {
			s, line, e = api.Source{}, f.line, f.e
		}
	}()
	r := &reference{p: p}
	for i, x := range p.Records {
		names := namesOf(p.Records[:i], func(x api.Record) string { return x.Name })
		r.must(i < api.MaxRecords && len(x.Fields) <= api.MaxFields, 0, api.ErrLimit)
		r.must(!slices.Contains(names, x.Name) && distinct(x.Fields), 0, api.ErrDuplicate)
	}
	for i, f := range p.Funcs {
		r.must(i < api.MaxFuncs, f.Line, api.ErrLimit)
		r.must(!slices.Contains(r.functions()[:i], f.Name), f.Line, api.ErrDuplicate)
	}
	out := api.Program{Records: p.Records}
	for i, f := range p.Funcs {
		f.Body = r.function(i, f)
		out.Funcs = append(out.Funcs, f)
	}
	return api.Source{Program: out, Vars: r.vars, Stmts: r.stmts}, 0, api.OK
}

func (r *reference) must(ok bool, line int, e api.Errno) {
	if !ok {
		panic(fault{line, e})
	}
}

func namesOf[T any](list []T, name func(T) string) []string {
	l := []string{}
	for _, x := range list {
		l = append(l, name(x))
	}
	return l
}

func (r *reference) functions() []string {
	return namesOf(r.p.Funcs, func(f api.Func) string { return f.Name })
}

func distinct(names []string) bool {
	return len(slices.Compact(slices.Sorted(slices.Values(names)))) == len(names)
}

func (r *reference) function(f int, x api.Func) []api.Stmt {
	r.must(len(x.Params) <= api.MaxParams, x.Line, api.ErrLimit)
	r.must(distinct(x.Params), x.Line, api.ErrDuplicate)
	r.vars, r.next = append(r.vars, nil), nil
	list := []int{}
	for _, name := range x.Params {
		list = append(list, r.add(api.VarInfo{Name: name, Kind: api.VarScalar, Record: -1, Words: 1, Param: true}))
	}
	body := r.block(x.Body, list)
	for v := range r.vars[f] {
		info := &r.vars[f][v]
		info.From, info.To = r.next[v], r.next[v]-1
		for stmt, in := range r.lists {
			if r.stmts[stmt].Func == f && slices.Contains(in, v) {
				info.To = stmt
			}
		}
	}
	return body
}

func (r *reference) add(v api.VarInfo) int {
	f := len(r.vars) - 1
	r.vars[f] = append(r.vars[f], v)
	r.next = append(r.next, len(r.stmts))
	return len(r.vars[f]) - 1
}

// declare returns the number of a variable and the list with it.
func (r *reference) declare(line int, v api.VarInfo, list []int) (int, []int) {
	f := len(r.vars) - 1
	r.must(r.find(v.Name, list) < 0, line, api.ErrDuplicate)
	r.must(len(r.vars[f]) < api.MaxVars, line, api.ErrLimit)
	n := r.add(v)
	return n, append(slices.Clone(list), n)
}

func (r *reference) find(name string, list []int) int {
	for _, v := range list {
		if r.vars[len(r.vars)-1][v].Name == name {
			return v
		}
	}
	return -1
}

func (r *reference) block(block []api.Stmt, list []int) []api.Stmt {
	out := []api.Stmt{}
	for _, s := range block {
		s.Id = len(r.stmts)
		r.must(s.Id < api.MaxStmts, s.Line, api.ErrLimit)
		r.stmts = append(r.stmts, api.StmtInfo{Func: len(r.vars) - 1, Kind: s.Kind, Line: s.Line})
		r.lists = append(r.lists, list)
		if s.Kind == api.StmtDeclare {
			s.Var, list = r.declare(s.Line, r.declared(s), list)
		}
		r.own(&s, list)
		s.Body = r.block(s.Body, list)
		inner := list
		if s.Kind == api.StmtTry {
			s.Var, inner = r.declare(s.Line, api.VarInfo{Name: s.Name, Kind: api.VarScalar, Record: -1, Words: 1}, list)
		}
		s.Else = r.block(s.Else, inner)
		out = append(out, s)
	}
	return out
}

func (r *reference) declared(s api.Stmt) api.VarInfo {
	v := api.VarInfo{Name: s.Name, Kind: api.VarScalar, Record: -1, Words: max(1, s.Len)}
	if s.Len > 0 {
		v.Kind = api.VarArray
	}
	if s.Type != "" {
		v.Kind = api.VarRecord
		v.Record = slices.IndexFunc(r.p.Records, func(x api.Record) bool { return x.Name == s.Type })
		r.must(v.Record >= 0, s.Line, api.ErrName)
		v.Words = len(r.p.Records[v.Record].Fields)
	}
	return v
}

// own checks the expressions and the call of a statement.
func (r *reference) own(s *api.Stmt, list []int) {
	for _, x := range s.Target {
		r.must(s.Kind != api.StmtCall || x.Op == api.ExprVariable, s.Line, api.ErrType)
	}
	s.Target = r.expressions(s.Line, s.Target, list)
	if s.Func != "" {
		s.Callee = slices.Index(r.functions(), s.Func)
		r.must(s.Callee >= 0, s.Line, api.ErrName)
		r.must(len(s.Args) == len(r.p.Funcs[s.Callee].Params), s.Line, api.ErrCount)
	}
	s.Args = r.expressions(s.Line, s.Args, list)
}

func (r *reference) expressions(line int, all []api.Expr, list []int) []api.Expr {
	out := []api.Expr{}
	for _, x := range all {
		kind := map[int]int{api.ExprVariable: api.VarScalar, api.ExprField: api.VarRecord, api.ExprElement: api.VarArray}[x.Op]
		if kind != 0 {
			x.Var = r.find(x.Name, list)
			r.must(x.Var >= 0, line, api.ErrName)
			r.must(r.vars[len(r.vars)-1][x.Var].Kind == kind, line, api.ErrType)
		}
		if kind == api.VarRecord {
			record := r.vars[len(r.vars)-1][x.Var].Record
			x.Number = slices.Index(r.p.Records[record].Fields, x.Field)
			r.must(x.Number >= 0, line, api.ErrName)
		}
		x.Args = r.expressions(line, x.Args, list)
		out = append(out, x)
	}
	return out
}

// writer makes texts by chance, always the same ones. Most names that it uses are in scope and of the right kind.
type writer struct {
	*rand.Rand
	text   strings.Builder
	room   int      // how many more statements there may be
	wrongs int      // of so many choices about one is wrong
	params []int    // of each function
	names  []string // in scope, each with the letter of its kind in front: i, a (array), R or S (record)
}

func (w *writer) wrong() bool { return w.IntN(w.wrongs) == 0 }

func (w *writer) add(parts ...string) { w.text.WriteString(strings.Join(parts, "")) }

func (w *writer) pick(list ...string) string { return list[w.IntN(len(list))] }

// name returns the name of a variable of one of these kinds.
func (w *writer) name(kinds string) string {
	fits := []string{}
	for _, n := range w.names {
		if strings.Contains(kinds, n[:1]) {
			fits = append(fits, n[1:])
		}
	}
	if w.wrong() || len(fits) == 0 {
		return w.anyName()
	}
	return w.pick(fits...)
}

func (w *writer) anyName() string { return "v" + strconv.Itoa(w.IntN(12)) }

// newName returns one that is not in scope.
func (w *writer) newName() string {
	name := w.anyName()
	for range 50 {
		if w.wrong() || !slices.ContainsFunc(w.names, func(n string) bool { return n[1:] == name }) {
			break
		}
		name = w.anyName()
	}
	return name
}

func (w *writer) program() string {
	w.add("record R { x, y } record S { ", w.pick("y", "z, x, y", "y, z", "a, y, c, x"), " } ")
	w.params = nil
	for range 1 + w.IntN(4) {
		w.params = append(w.params, w.IntN(api.MaxParams+1))
	}
	for f, params := range w.params {
		if w.wrong() {
			f = 0
		}
		w.names = nil
		w.add("func f", strconv.Itoa(f), "(")
		for i := range params {
			if i > 0 {
				w.add(", ")
			}
			name := w.newName()
			w.names = append(w.names, "i"+name)
			w.add(name)
		}
		w.add(") ")
		w.block(1)
	}
	return w.text.String()
}

func (w *writer) block(blocks int) {
	size := len(w.names)
	w.add("{ ")
	for range w.IntN(7) {
		if w.room > 0 {
			w.statement(blocks)
		}
	}
	w.add("} ")
	w.names = w.names[:size]
}

func (w *writer) statement(blocks int) {
	w.room--
	choice := w.IntN(12)
	if blocks >= 4 && choice >= 9 {
		choice = 0
	}
	switch choice {
	case 0, 1, 2:
		name := w.newName()
		kind := w.pick("i", "i", "a", "R", "S")
		w.names = append(w.names, kind+name)
		typeName := map[string]string{"i": "int", "a": "int[" + strconv.Itoa(1+w.IntN(8)) + "]", "R": "R", "S": "S"}[kind]
		if w.wrong() {
			typeName = w.pick("T", "f0", "R", name)
		}
		w.add("var ", name, ": ", typeName, "; ")
	case 3, 4:
		w.add(w.target("iaRS"), " = ", w.expression(3), "; ")
	case 5, 6:
		w.add(w.pick("", "return ", w.target("i")+" = "))
		if w.wrong() {
			w.add(w.target("aRS"), " = f0(); ")
			return
		}
		w.call()
	case 7:
		w.add(w.pick("print ", "return ", "throw "), w.expression(3), "; ")
	case 8:
		w.add("print ", w.expression(2), "; ")
	case 9:
		w.add("if ", w.expression(2), " ")
		w.block(blocks + 1)
		if w.IntN(2) == 0 {
			w.add("else ")
			w.block(blocks + 1)
		}
	case 10:
		w.add("while ", w.expression(2), " ")
		w.block(blocks + 1)
	case 11:
		w.add("try ")
		w.block(blocks + 1)
		name := w.newName()
		w.add("catch ", name, " ")
		w.names = append(w.names, "i"+name)
		w.block(blocks + 1)
		w.names = w.names[:len(w.names)-1]
	}
}

func (w *writer) call() {
	f := w.IntN(len(w.params))
	args := w.params[f]
	if w.wrong() {
		f = 7
	}
	if w.wrong() {
		args++
	}
	list := []string{}
	for range args {
		list = append(list, w.expression(2))
	}
	w.add("f", strconv.Itoa(f), "(", strings.Join(list, ", "), "); ")
}

// target returns a variable, a field or an element of one of these kinds, mostly of one that there is.
func (w *writer) target(kinds string) string {
	kind := string(kinds[w.IntN(len(kinds))])
	for range 20 {
		if slices.ContainsFunc(w.names, func(n string) bool { return n[:1] == kind }) {
			break
		}
		kind = string(kinds[w.IntN(len(kinds))])
	}
	name := w.name(kind)
	switch kind {
	case "a":
		return name + "[" + w.expression(1) + "]"
	case "R":
		return name + "." + w.pick("x", "y", "y")
	case "S":
		return name + ".y"
	}
	return name
}

func (w *writer) expression(depth int) string {
	if depth == 0 || len(w.names) == 0 {
		return strconv.Itoa(w.IntN(9))
	}
	switch w.IntN(6) {
	case 0, 1:
		return w.target("iaRS")
	case 2:
		return w.pick("-", "!") + w.expression(depth-1)
	case 3, 4:
		return "(" + w.expression(depth-1) + w.pick(" + ", " < ", " & ", " / ") + w.expression(depth-1) + ")"
	}
	return w.expression(depth - 1)
}

func TestProgramsByChance(t *testing.T) {
	w := &writer{Rand: rand.New(rand.NewPCG(5, 6))}
	found := map[api.Errno]int{}
	for i := range 6000 {
		w.text.Reset()
		w.room, w.wrongs = 4+w.IntN(60), 4+60*(i%4)*(i%4)
		text := strings.ReplaceAll(w.program(), "; ", ";\n")
		if len(text) > api.MaxText {
			continue
		}
		p, _, e := parser.Parse(text)
		if e == api.ErrLimit {
			continue
		}
		got, line, e := Check(p)
		want, wantLine, wantErr := reckon(p)
		if key(got) != key(want) || line != wantLine || e != wantErr {
			t.Fatalf("P4.2: Check of %q = %+v, %d, %d, not %+v, %d, %d", text, got, line, e, want, wantLine, wantErr)
		}
		found[e]++
	}
	for _, e := range []api.Errno{api.OK, api.ErrName, api.ErrDuplicate, api.ErrType, api.ErrCount} {
		if found[e] < 50 {
			t.Errorf("only %d programs have the error %d", found[e], e)
		}
	}
	t.Logf("programs by error: %v", found)
}
