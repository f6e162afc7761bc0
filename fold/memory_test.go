package fold

import (
	"fmt"
	"math/rand/v2"
	"reflect"
	"slices"
	"testing"

	"debugger/api"
	"debugger/modules"
)

// memory is the memory of a slice, its spare capacity included.
type memory struct{ from, to uintptr }

// parts returns the elements of a slice or an array, or the fields of a struct.
func parts(v reflect.Value) []reflect.Value {
	l := []reflect.Value{}
	switch v.Kind() {
	case reflect.Slice, reflect.Array:
		for i := range v.Len() {
			l = append(l, v.Index(i))
		}
	case reflect.Struct:
		for i := range v.NumField() {
			l = append(l, v.Field(i))
		}
	}
	return l
}

// memories returns the memory of each slice of a value.
func memories(v reflect.Value) []memory {
	l := []memory{}
	if v.Kind() == reflect.Slice && v.Cap() > 0 {
		l = append(l, memory{v.Pointer(), v.Pointer() + uintptr(v.Cap())*v.Type().Elem().Size()})
	}
	for _, x := range parts(v) {
		l = append(l, memories(x)...)
	}
	return l
}

// expectApart checks that no memory of the slices of some codes belongs to two of them.
func expectApart(t *testing.T, codes ...api.Code) {
	t.Helper()
	l := []memory{}
	for _, c := range codes {
		l = append(l, memories(reflect.ValueOf(c))...)
	}
	slices.SortFunc(l, func(a, b memory) int { return int(a.from) - int(b.from) })
	for i := 1; i < len(l); i++ {
		if l[i].from < l[i-1].to {
			t.Errorf("P2: two of %d slices share memory", len(l))
			return
		}
	}
}

// roomy returns a code whose slices are copies with spare capacity.
func roomy(c api.Code) api.Code {
	giveRoom(reflect.ValueOf(&c).Elem())
	return c
}

func giveRoom(v reflect.Value) {
	if v.Kind() == reflect.Slice {
		l := reflect.MakeSlice(v.Type(), v.Len(), v.Len()+3)
		reflect.Copy(l, v)
		v.Set(l)
	}
	for _, x := range parts(v) {
		giveRoom(x)
	}
}

// everything returns a value as a text, with what is in the spare capacity of its slices.
func everything(v reflect.Value) string {
	switch v.Kind() {
	case reflect.Slice:
		v = v.Slice(0, v.Cap())
	case reflect.Array, reflect.Struct:
	default:
		return fmt.Sprint(v.Interface())
	}
	text := ""
	for _, x := range parts(v) {
		text += everything(x) + ","
	}
	return "[" + text + "]"
}

// spoil changes all numbers of a result, those in spare capacity too.
func spoil(v reflect.Value) {
	switch v.Kind() {
	case reflect.Slice:
		v = v.Slice(0, v.Cap())
	case reflect.Int:
		v.SetInt(-77)
	}
	for _, x := range parts(v) {
		spoil(x)
	}
}

// busy has each kind of terminator, with arguments wherever there may be some.
var busy = lines("context 0 3 1", "context 1 5 0", "object 0 3 4", "object 1 3 2",
	"(2) v2 = 0; v3 = v0 + v2; v4 = copy v3; bind 0 to v4; bind 1 to v2 + 3; mark 3; v5 = v2 + v2; store 0 v5 v4; branch v5 1(v4 v1) 2(v4 v3 v5)",
	"(2) v2 = copy v1; zero 1; print v2; call 2(v2 v1) 2(v2 v0) 3(v2)",
	"(3) v3 = 1; v4 = v3 * v1; v5 = load 0 v4; at 4 in 1; branch v5 1(v4 v1) 3(v4 v3)",
	"(2) v2 = copy v0; jump 4(v2)",
	"(1) v1 = 2; branch v1 5(v0 v1) 6(v1)",
	"(2) v2 = copy v1; tail 3(v2 v0)",
	"(1) v1 = copy v0; throw v1",
	"(0) v0 = 3; v1 = copy v0; return v1")

func TestMemory(t *testing.T) {
	c := roomy(code(t, busy))
	before := everything(reflect.ValueOf(c))
	first, again := folded(t, "P2", c), Fold(c)
	if key(first) == key(c) || key(first) != key(again) {
		t.Error("P3: a second Fold has another result, or nothing is folded")
	}
	expectApart(t, c, first, again)
	if everything(reflect.ValueOf(c)) != before {
		t.Fatal("P2: Fold changes its argument")
	}
	spoil(reflect.ValueOf(&first).Elem())
	if everything(reflect.ValueOf(c)) != before {
		t.Error("P2: the argument changes with the result")
	}
	if key(Fold(c)) != key(again) {
		t.Error("P3: a result changes with an earlier one")
	}
}

func TestMemoryByChance(t *testing.T) {
	r := rand.New(rand.NewPCG(8, 4))
	for range 300 {
		_, m := modules.Module(r.IntN)
		for _, c := range m.Funcs {
			c = roomy(c)
			before := everything(reflect.ValueOf(c))
			expectApart(t, c, Fold(c), Fold(c))
			if everything(reflect.ValueOf(c)) != before {
				t.Fatalf("P2: Fold changes its argument %s", before)
			}
		}
	}
}

// What is refused is not changed either.
func TestRefusedMemory(t *testing.T) {
	c := roomy(code(t, busy))
	c.Blocks[2].Term.A = 6
	before := everything(reflect.ValueOf(c))
	if got := Fold(c); key(got) != key(c) || everything(reflect.ValueOf(c)) != before {
		t.Errorf("P2: a code that is refused becomes %+v", got)
	}
}

// Slices of the argument may lie in each other's spare capacity.
func TestCloseMemory(t *testing.T) {
	c := code(t, busy)
	want := key(Fold(c))
	args, ops := make([]int, 0, 100), make([]api.Op, 0, 100)
	shift := func(list *[]int) {
		from := len(args)
		args = append(args, *list...)
		*list = args[from:]
	}
	for i := range c.Blocks {
		b := &c.Blocks[i]
		from := len(ops)
		ops = append(ops, b.Ops...)
		b.Ops = ops[from:]
		shift(&b.Term.Args)
		shift(&b.Term.To[0].Args)
		shift(&b.Term.To[1].Args)
	}
	before := everything(reflect.ValueOf(c))
	if got := Fold(c); key(got) != want || everything(reflect.ValueOf(c)) != before {
		t.Errorf("P2: %+v", got)
	}
}
