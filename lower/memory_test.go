package lower

import (
	"fmt"
	"reflect"
	"slices"
	"testing"

	"debugger/api"
)

// memory is the memory of a slice, its spare capacity included.
type memory struct{ from, to uintptr }

// parts returns the elements of a slice or an array, or the fields of a struct.
func parts(v reflect.Value) []reflect.Value {
	l := []reflect.Value{}
	switch v.Kind() {
	case reflect.Slice, reflect.Array:
		for i := range v.Len() {
			l = append(l, v.Index(i))
		}
	case reflect.Struct:
		for i := range v.NumField() {
			l = append(l, v.Field(i))
		}
	}
	return l
}

// memories returns the memory of each slice of a value.
func memories(v reflect.Value) []memory {
	l := []memory{}
	if v.Kind() == reflect.Slice && v.Cap() > 0 {
		l = append(l, memory{v.Pointer(), v.Pointer() + uintptr(v.Cap())*v.Type().Elem().Size()})
	}
	for _, x := range parts(v) {
		l = append(l, memories(x)...)
	}
	return l
}

// expectApart checks that no memory of the slices of some values belongs to two of them.
func expectApart(t *testing.T, values ...any) {
	t.Helper()
	l := []memory{}
	for _, v := range values {
		l = append(l, memories(reflect.ValueOf(v))...)
	}
	slices.SortFunc(l, func(a, b memory) int { return int(a.from) - int(b.from) })
	for i := 1; i < len(l); i++ {
		if l[i].from < l[i-1].to {
			t.Errorf("P2: two of %d slices share memory", len(l))
			return
		}
	}
}

// roomy returns a value whose slices are copies with spare capacity.
func roomy[T any](x T) T {
	giveRoom(reflect.ValueOf(&x).Elem())
	return x
}

func giveRoom(v reflect.Value) {
	if v.Kind() == reflect.Slice {
		l := reflect.MakeSlice(v.Type(), v.Len(), v.Len()+3)
		reflect.Copy(l, v)
		v.Set(l)
	}
	for _, x := range parts(v) {
		giveRoom(x)
	}
}

// everything returns a value as a text, with what is in the spare capacity of its slices.
func everything(v reflect.Value) string {
	switch v.Kind() {
	case reflect.Slice:
		v = v.Slice(0, v.Cap())
	case reflect.Array, reflect.Struct:
	default:
		return fmt.Sprint(v.Interface())
	}
	text := ""
	for _, x := range parts(v) {
		text += everything(x) + ","
	}
	return "[" + text + "]"
}

// spoil changes all numbers of a result, those in spare capacity too.
func spoil(v reflect.Value) {
	switch v.Kind() {
	case reflect.Slice:
		v = v.Slice(0, v.Cap())
	case reflect.Int:
		v.SetInt(-77)
	}
	for _, x := range parts(v) {
		spoil(x)
	}
}

const busy = `record R { p, q }
func f(a, b) {
	var r: R;
	var l: int[3];
	r.p = a;
	l[b] = r.p / 4 - l[a / b];
	while a {
		try {
			var x: int;
			a = g(a, l[1] % a);
			if a { throw x; } else { print -!a; }
		} catch e {
			print e;
			a = a - 1;
			h();
		}
		if a == 3 { return g(a, b); }
	}
	return l[2];
}
func g(x, y) {
	var m: int[2];
	m[x % 4] = 6;
	throw x;
}
func h() {
}
`

func TestMemory(t *testing.T) {
	s := roomy(source(t, busy))
	before := everything(reflect.ValueOf(s))
	m, _ := Lower(s)
	again, _ := Lower(s)
	if len(m.Funcs) != 3 || key(m) != key(again) {
		t.Error("P3: a second Lower has another result")
	}
	expectApart(t, s, m, again)
	if everything(reflect.ValueOf(s)) != before {
		t.Fatal("P2: Lower changes its argument")
	}
	spoil(reflect.ValueOf(&m).Elem())
	if everything(reflect.ValueOf(s)) != before {
		t.Error("P2: the argument changes with the result")
	}
	if last, _ := Lower(s); key(last) != key(again) {
		t.Error("P3: a result changes with an earlier one")
	}
}

func TestMemoryByChance(t *testing.T) {
	for _, s := range manyPrograms(t, 60) {
		m, _ := Lower(s)
		again, _ := Lower(s)
		expectApart(t, s, m, again)
		if key(m) != key(again) {
			t.Error("P3: a second Lower has another result")
		}
	}
}

// The names, the lines and the records of a source do not matter.
func TestUnusedParts(t *testing.T) {
	s := source(t, busy)
	want := key(lowered(t, "P3", s))
	other := roomy(s)
	other.Program.Records, other.Stmts = nil, nil
	for f := range other.Program.Funcs {
		other.Program.Funcs[f].Name, other.Program.Funcs[f].Line = "x", -4
		for v := range other.Vars[f] {
			other.Vars[f][v].Name, other.Vars[f][v].Record, other.Vars[f][v].Param = "x", 7, true
		}
	}
	if m, e := Lower(other); e != api.OK || key(m) != want {
		t.Errorf("P7.1: the error is %d, and the code depends on names", e)
	}
}
