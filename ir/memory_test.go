package ir

import (
	"fmt"
	"reflect"
	"slices"
	"testing"

	"debugger/api"
)

// memory is the memory of a slice, its spare capacity included.
type memory struct{ from, to uintptr }

// memories returns the memory of each slice of a value.
func memories(v reflect.Value) []memory {
	l := []memory{}
	switch v.Kind() {
	case reflect.Slice:
		if v.Cap() > 0 {
			l = append(l, memory{v.Pointer(), v.Pointer() + uintptr(v.Cap())*v.Type().Elem().Size()})
		}
		for i := range v.Len() {
			l = append(l, memories(v.Index(i))...)
		}
	case reflect.Array:
		for i := range v.Len() {
			l = append(l, memories(v.Index(i))...)
		}
	case reflect.Struct:
		for i := range v.NumField() {
			l = append(l, memories(v.Field(i))...)
		}
	}
	return l
}

// expectApart checks that no memory of the slices of some values belongs to two of them.
func expectApart(t *testing.T, values ...any) {
	t.Helper()
	l := []memory{}
	for _, v := range values {
		l = append(l, memories(reflect.ValueOf(v))...)
	}
	slices.SortFunc(l, func(a, b memory) int { return int(a.from) - int(b.from) })
	for i := 1; i < len(l); i++ {
		if l[i].from < l[i-1].to {
			t.Errorf("P2: two of %d slices share memory", len(l))
			return
		}
	}
}

// roomy returns a value whose slices are copies with spare capacity.
func roomy[T any](x T) T {
	v := reflect.New(reflect.TypeOf(x)).Elem()
	v.Set(reflect.ValueOf(x))
	giveRoom(v)
	return v.Interface().(T)
}

func giveRoom(v reflect.Value) {
	switch v.Kind() {
	case reflect.Slice:
		l := reflect.MakeSlice(v.Type(), v.Len(), v.Len()+3)
		reflect.Copy(l, v)
		v.Set(l)
		for i := range v.Len() {
			giveRoom(v.Index(i))
		}
	case reflect.Array:
		for i := range v.Len() {
			giveRoom(v.Index(i))
		}
	case reflect.Struct:
		for i := range v.NumField() {
			giveRoom(v.Field(i))
		}
	}
}

// everything returns a value as a text, with what is in the spare capacity of its slices.
func everything(x any) string {
	v := reflect.New(reflect.TypeOf(x)).Elem()
	v.Set(reflect.ValueOf(x))
	return textOf(v)
}

func textOf(v reflect.Value) string {
	text := ""
	switch v.Kind() {
	case reflect.Slice:
		v = v.Slice(0, v.Cap())
		for i := range v.Len() {
			text += textOf(v.Index(i)) + ","
		}
		return "[" + text + "]"
	case reflect.Array:
		for i := range v.Len() {
			text += textOf(v.Index(i)) + ","
		}
		return text
	case reflect.Struct:
		for i := range v.NumField() {
			text += textOf(v.Field(i)) + " "
		}
		return "{" + text + "}"
	}
	return fmt.Sprint(v.Interface())
}

// spoil changes all numbers of a result, those in spare capacity too.
func spoil(v reflect.Value) {
	switch v.Kind() {
	case reflect.Slice:
		v = v.Slice(0, v.Cap())
		for i := range v.Len() {
			spoil(v.Index(i))
		}
	case reflect.Struct:
		for i := range v.NumField() {
			spoil(v.Field(i))
		}
	case reflect.Int:
		if v.CanSet() {
			v.SetInt(-77)
		}
	}
}

// busy calls, throws, stores and loops; its first function has the parameters 3 and 2, say.
func busy(t *testing.T) (api.Source, api.Module) {
	m := module(t,
		"context 0 8 1\nobject 0 2 3\nobject 1 1 2\n(2) bind 0 to v0; bind 1 to v1; mark 0; jump 1(v0 v1)\n"+
			"(2) bind 0 to v0; bind 1 to v1 + 1; bind 0 in 1 to entry 0; mark 1; store 0 v1 v0; mark 2 in 1; call 1(v0 v1) 2(v0 v1) 3(v0 v1)\n"+
			"(3) bind 0 to v1; mark 3; print v0; jump 4(v1 v2)\n"+
			"(3) bind 1 to v0; mark 4; print v0; zero 0; jump 4(v1 v2)\n"+
			"(2) v2 = 1; v3 = v0 - v2; branch v0 1(v3 v1) 5(v0)\n(1) tail 2(v0)",
		"object 0 1 4\n(2) v2 = 2; bind 0 to v0; mark 5; v3 = v0 % v2; branch v3 1(v0 v1) 2(v0 v1)\n(2) store 0 v1 v0; mark 6; tail 2(v0)\n(2) bind 0 to entry 1; mark 7; throw v0",
		"(1) bind 0 to v0; mark 8; print v0; return v0")
	s := scalars(3, 2)
	s.Vars[0] = append(s.Vars[0], api.VarInfo{Kind: api.VarArray, Words: 4, To: 99})
	s.Vars[1][1] = api.VarInfo{Kind: api.VarArray, Words: 3, To: 99}
	s.Vars[2] = append(s.Vars[2], api.VarInfo{Kind: api.VarRecord, Words: 4, From: 8, To: 8})
	return s, m
}

func TestMemory(t *testing.T) {
	s, m := busy(t)
	s, m = roomy(s), roomy(m)
	args := roomy([]int{9, 1})
	before := everything(s) + everything(m) + everything(args)
	for _, c := range []struct{ f, steps, from, most int }{{0, 1000, 0, 100}, {0, 20, 10, 30}, {0, 1000, 25, 100}, {1, 1000, 0, 100}, {2, 1000, 0, 100}, {0, 0, 0, 100}, {0, 1000, 0, 101}} {
		events, o := Trace(s, m, c.f, args, c.steps, c.from, c.most)
		again, other := Trace(s, m, c.f, args, c.steps, c.from, c.most)
		expectApart(t, s, m, args, events, o, again, other)
		if key(again) != key(events) || key(other) != key(o) {
			t.Errorf("P3: a second Trace of %+v has another result", c)
		}
		if c.f == 0 && c.steps == 1000 && c.most == 100 && (len(events) < 20 || o.Err != api.OK) {
			t.Errorf("Trace of %+v has only %d events and %s", c, len(events), describe(o))
		}
		if Check(m) != api.OK || CheckCode(m.Funcs[0]) != api.OK {
			t.Fatalf("P6.2: the module is refused")
		}
		if everything(s)+everything(m)+everything(args) != before {
			t.Fatalf("P2: Trace of %+v changes its arguments", c)
		}
		spoil(reflect.ValueOf(events))
		spoil(reflect.ValueOf(o))
		if everything(s)+everything(m)+everything(args) != before {
			t.Fatalf("P2: the arguments change with the result of %+v", c)
		}
	}
}

// What is refused is not changed either.
func TestRefusedMemory(t *testing.T) {
	s, m := busy(t)
	m = roomy(m)
	m.Funcs[1].Blocks[0].Ops[1].Ctx = 5
	before := everything(m)
	if events, o := Trace(s, m, 0, []int{3, 2}, 100, 0, 100); len(events) > 0 || o.Err != api.ErrForm || CheckCode(m.Funcs[1]) != api.ErrForm {
		t.Errorf("P6.3: %d events and %s", len(events), describe(o))
	}
	if everything(m) != before {
		t.Error("P2: a module that is refused is changed")
	}
}

// Nothing stays from one run to the next.
func TestRunsAreApart(t *testing.T) {
	m := module(t, "object 0 0 2\n(0) v0 = 1; v1 = load 0 v0; v2 = 5; v3 = v1 + v2; store 0 v0 v3; print v3; throw v3")
	for range 3 {
		if _, o := Trace(api.Source{}, m, 0, nil, 10, 0, 10); key(o) != key(api.Outcome{Thrown: true, Value: 5, Output: []int{5}}) {
			t.Errorf("P3: the outcome is %s", describe(o))
		}
	}
}
