package interp

import (
	"fmt"
	"reflect"
	"slices"
	"testing"

	"debugger/api"
)

// memory is the memory of a slice, its spare capacity included.
type memory struct{ from, to uintptr }

// memories returns the memory of each slice of a value.
func memories(v reflect.Value) []memory {
	l := []memory{}
	switch v.Kind() {
	case reflect.Slice:
		if v.Cap() > 0 {
			l = append(l, memory{v.Pointer(), v.Pointer() + uintptr(v.Cap())*v.Type().Elem().Size()})
		}
		for i := range v.Len() {
			l = append(l, memories(v.Index(i))...)
		}
	case reflect.Struct:
		for i := range v.NumField() {
			l = append(l, memories(v.Field(i))...)
		}
	}
	return l
}

// expectApart checks that no memory of the slices of some values belongs to two of them.
func expectApart(t *testing.T, values ...any) {
	t.Helper()
	l := []memory{}
	for _, v := range values {
		l = append(l, memories(reflect.ValueOf(v))...)
	}
	slices.SortFunc(l, func(a, b memory) int { return int(a.from) - int(b.from) })
	for i := 1; i < len(l); i++ {
		if l[i].from < l[i-1].to {
			t.Errorf("P2: two of %d slices share memory", len(l))
			return
		}
	}
}

// roomy returns a value whose slices are copies with spare capacity.
func roomy[T any](x T) T {
	v := reflect.New(reflect.TypeOf(x)).Elem()
	v.Set(reflect.ValueOf(x))
	giveRoom(v)
	return v.Interface().(T)
}

func giveRoom(v reflect.Value) {
	switch v.Kind() {
	case reflect.Slice:
		l := reflect.MakeSlice(v.Type(), v.Len(), v.Len()+3)
		reflect.Copy(l, v)
		v.Set(l)
		for i := range v.Len() {
			giveRoom(v.Index(i))
		}
	case reflect.Struct:
		for i := range v.NumField() {
			giveRoom(v.Field(i))
		}
	}
}

// everything returns a value as a text, with what is in the spare capacity of its slices.
func everything(x any) string {
	v := reflect.New(reflect.TypeOf(x)).Elem()
	v.Set(reflect.ValueOf(x))
	return textOf(v)
}

func textOf(v reflect.Value) string {
	text := ""
	switch v.Kind() {
	case reflect.Slice:
		v = v.Slice(0, v.Cap())
		for i := range v.Len() {
			text += textOf(v.Index(i)) + ","
		}
		return "[" + text + "]"
	case reflect.Struct:
		for i := range v.NumField() {
			text += textOf(v.Field(i)) + " "
		}
		return "{" + text + "}"
	}
	return fmt.Sprint(v.Interface())
}

const busy = `record R { p, q }
func f(a, b) {
	var r: R;
	var l: int[3];
	r.p = a;
	l[b] = r.p;
	while a {
		try {
			a = g(a, l[1]);
			print a;
		} catch e {
			print e;
			a = a - 1;
		}
	}
	return l[2];
}
func g(x, y) {
	var m: int[2];
	x = x - 1;
	m[x % 4] = 6;
	return x;
}
`

func TestMemory(t *testing.T) {
	s, args := roomy(source(t, busy)), roomy([]int{9, 1})
	before := everything(s) + everything(args)
	for _, c := range []struct{ f, steps, from, most int }{{0, 1000, 0, 100}, {0, 50, 10, 30}, {0, 1000, 40, 100}, {1, 1000, 0, 100}, {2, 1000, 0, 100}, {0, 0, 0, 100}, {0, 1000, 0, 101}} {
		events, o := Trace(s, c.f, args, c.steps, c.from, c.most)
		again, other := Trace(s, c.f, args, c.steps, c.from, c.most)
		expectApart(t, s, args, events, o, again, other)
		if key(again) != key(events) || key(other) != key(o) {
			t.Errorf("P3: a second Trace of %+v has another result", c)
		}
		if everything(s)+everything(args) != before {
			t.Fatalf("P2: Trace of %+v changes its arguments", c)
		}
		spoil(reflect.ValueOf(events))
		spoil(reflect.ValueOf(o))
		if everything(s)+everything(args) != before {
			t.Fatalf("P2: the arguments change with the result of %+v", c)
		}
	}
}

// spoil changes all numbers of a result, those in spare capacity too.
func spoil(v reflect.Value) {
	switch v.Kind() {
	case reflect.Slice:
		v = v.Slice(0, v.Cap())
		for i := range v.Len() {
			spoil(v.Index(i))
		}
	case reflect.Struct:
		for i := range v.NumField() {
			spoil(v.Field(i))
		}
	case reflect.Int:
		if v.CanSet() {
			v.SetInt(-77)
		}
	}
}

// What a later statement changes does not change in the events ahead of it.
func TestEventsStay(t *testing.T) {
	expectFrames(t, "P5.4", "record R { p } func f(a) { var l: int[2]; var r: R; l[0] = 1; r.p = 2; a = 3; l[1] = 4; }", []int{8},
		"f 0 a=8", "f 1 a=8 l=0,0", "f 2 a=8 l=0,0 r=0", "f 3 a=8 l=1,0 r=0", "f 4 a=8 l=1,0 r=2", "f 5 a=3 l=1,0 r=2", "f 6 a=3 l=1,4 r=2")
}

// Nothing stays from one run to the next.
func TestRunsAreApart(t *testing.T) {
	s := source(t, "func f() { var x: int; x = x + 1; print x; throw x; }")
	for range 3 {
		if _, o := Trace(s, 0, nil, 10, 0, 10); key(o) != key(api.Outcome{Thrown: true, Value: 1, Output: []int{1}}) {
			t.Errorf("P3: the outcome is %s", describe(o))
		}
	}
}
