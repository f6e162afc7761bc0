package checker

import (
	"reflect"
	"slices"
	"strings"
	"testing"

	"debugger/api"
)

// memory is the memory of a slice, its spare capacity included.
type memory struct{ from, to uintptr }

// memories returns the memory of each slice of a value.
func memories(v reflect.Value) []memory {
	l := []memory{}
	switch v.Kind() {
	case reflect.Slice:
		if v.Cap() > 0 {
			l = append(l, memory{v.Pointer(), v.Pointer() + uintptr(v.Cap())*v.Type().Elem().Size()})
		}
		for i := range v.Len() {
			l = append(l, memories(v.Index(i))...)
		}
	case reflect.Struct:
		for i := range v.NumField() {
			l = append(l, memories(v.Field(i))...)
		}
	}
	return l
}

// expectApart checks that no memory of the slices of some values belongs to two of them.
func expectApart(t *testing.T, values ...any) {
	t.Helper()
	l := []memory{}
	for _, v := range values {
		l = append(l, memories(reflect.ValueOf(v))...)
	}
	slices.SortFunc(l, func(a, b memory) int { return int(a.from) - int(b.from) })
	for i := 1; i < len(l); i++ {
		if l[i].from < l[i-1].to {
			t.Errorf("P2: two of %d slices share memory", len(l))
			return
		}
	}
}

// roomy returns a program whose slices all have spare capacity, with what is in it.
func roomy(p api.Program) api.Program {
	p.Records = withRoom(p.Records)
	for i := range p.Records {
		p.Records[i].Fields = withRoom(p.Records[i].Fields)
	}
	p.Funcs = withRoom(p.Funcs)
	for i := range p.Funcs {
		p.Funcs[i].Params = withRoom(p.Funcs[i].Params)
		p.Funcs[i].Body = roomyBlock(p.Funcs[i].Body)
	}
	return p
}

func roomyBlock(block []api.Stmt) []api.Stmt {
	block = withRoom(block)
	for i := range block {
		block[i].Target, block[i].Args = roomyList(block[i].Target), roomyList(block[i].Args)
		block[i].Body, block[i].Else = roomyBlock(block[i].Body), roomyBlock(block[i].Else)
	}
	return block
}

func roomyList(l []api.Expr) []api.Expr {
	l = withRoom(l)
	for i := range l {
		l[i].Args = roomyList(l[i].Args)
	}
	return l
}

func withRoom[T any](l []T) []T {
	size := len(l)
	return slices.Grow(slices.Clone(l), size+3)[:size]
}

// whole returns a program with the spare capacity of its slices in them.
func whole(p api.Program) api.Program {
	p.Records = slices.Clone(p.Records[:cap(p.Records)])
	for i, r := range p.Records {
		p.Records[i].Fields = r.Fields[:cap(r.Fields)]
	}
	p.Funcs = slices.Clone(p.Funcs[:cap(p.Funcs)])
	for i, f := range p.Funcs {
		p.Funcs[i].Params, p.Funcs[i].Body = f.Params[:cap(f.Params)], wholeBlock(f.Body)
	}
	return p
}

func wholeBlock(block []api.Stmt) []api.Stmt {
	block = slices.Clone(block[:cap(block)])
	for i, s := range block {
		block[i].Target, block[i].Args = wholeList(s.Target), wholeList(s.Args)
		block[i].Body, block[i].Else = wholeBlock(s.Body), wholeBlock(s.Else)
	}
	return block
}

func wholeList(l []api.Expr) []api.Expr {
	l = slices.Clone(l[:cap(l)])
	for i, x := range l {
		l[i].Args = wholeList(x.Args)
	}
	return l
}

// No argument is changed, neither behind the ends of its slices, and nothing of it is in the result.
func TestArgumentsOfCheck(t *testing.T) {
	for _, text := range []string{sample, "", "record R { a }", "func f() { }", "func f(a) { try { a = f(-a + 1); } catch e { print e; } }", sample + "func h() { print x; }", sample + "func f() { }", "record R { a, a }"} {
		p := roomy(parsed(t, text))
		before := key(whole(p))
		s, _, e := Check(p)
		if key(whole(p)) != before {
			t.Errorf("P2: Check changes its argument %.300q", text)
		}
		expectApart(t, p, s)
		again, _, _ := Check(p)
		if key(again) != key(s) {
			t.Errorf("P3: a second Check of %.300q has another result", text)
		}
		expectApart(t, p, s, again)
		if e == api.OK && len(s.Program.Funcs) != len(p.Funcs) {
			t.Errorf("P4.3: Check of %.300q has another program", text)
		}
	}
}

// Also if the argument's own slices share memory, those of the result do not.
func TestSharedArguments(t *testing.T) {
	p := parsed(t, "record R { a, b } record S { a } func f(a) { print a + a; if a { print a; } else { print a; } } func g(a) { }")
	p.Records[1].Fields = p.Records[0].Fields
	body := p.Funcs[0].Body
	body[0].Args[0].Args[1] = api.Expr{Op: api.ExprNegate, Args: body[0].Args[0].Args[:1]}
	body[1].Args, body[1].Else = body[0].Args, body[1].Body
	p.Funcs[1].Body, p.Funcs[1].Params = body, p.Funcs[0].Params
	s, line, e := Check(p)
	if line != 0 || e != api.OK || len(s.Stmts) != 10 {
		t.Fatalf("P4.2: Check = %+v, %d, %d", s, line, e)
	}
	expectApart(t, s)
	for i, stmt := range statements(s.Program) {
		if stmt.Id != i {
			t.Errorf("P4.3: the statement %d has the number %d", i, stmt.Id)
		}
	}
}

// A checked program is checked like the program that it was, and is not changed.
func TestCheckedPrograms(t *testing.T) {
	s := accept(t, "P4.2", sample)
	before := key(s)
	again, line, e := Check(s.Program)
	if key(again) != before || key(s) != before || line != 0 || e != api.OK {
		t.Errorf("P2: Check of a checked program = %+v, %d, %d", again, line, e)
	}
	expectApart(t, s, again)
}

func TestArgumentsOfFindAndVisible(t *testing.T) {
	s := accept(t, "P4.2", sample)
	s.Vars[0] = withRoom(s.Vars[0])
	s.Program = roomy(s.Program)
	before, program := key(s), key(whole(s.Program))
	spare := key(s.Vars[0][:cap(s.Vars[0])])
	first, second := Visible(s, 0, 5), Visible(s, 0, 5)
	Find(s, "f")
	Find(s, "nothing")
	Visible(s, 1, 16)
	if key(s) != before || key(whole(s.Program)) != program || key(s.Vars[0][:cap(s.Vars[0])]) != spare {
		t.Error("P2: Find or Visible changes its argument")
	}
	expectApart(t, s, first, second)
	if !strings.Contains(key(first), "0 1 2 3 4") || key(first) != key(second) {
		t.Errorf("P4.4: Visible = %v and %v", first, second)
	}
}
