package interp

import (
	"math/rand/v2"
	"reflect"
	"testing"

	"debugger/api"
)

// Sources that Check does not return end without a panic.
func TestOtherSources(t *testing.T) {
	one := func(stmts ...api.Stmt) api.Source {
		return api.Source{Program: api.Program{Funcs: []api.Func{{Name: "f", Body: stmts}}}, Vars: [][]api.VarInfo{{}}}
	}
	wide := one(api.Stmt{Kind: api.StmtEnd})
	for _, size := range []int{least, -1, 0, api.MaxLen + 1, 1 << 40, 1 << 60, greatest} {
		wide.Vars = [][]api.VarInfo{{{Kind: api.VarArray, Words: size, From: 0, To: 9}}}
		Trace(wide, 0, nil, 10, 0, 10)
	}
	with := func(x api.Expr) api.Source { return one(api.Stmt{Kind: api.StmtReturn, Args: []api.Expr{x}}) }
	nested := api.Expr{Op: api.ExprLiteral, Number: 4}
	for range 1 << 16 {
		nested = api.Expr{Op: api.ExprNegate, Args: []api.Expr{nested}}
	}
	if _, o := Trace(with(nested), 0, nil, 10, 0, 10); describe(o) != "value 4" {
		t.Errorf("P1: 2^16 levels of an expression have %s", describe(o))
	}
	block := []api.Stmt{{Kind: api.StmtReturn, Args: []api.Expr{{Number: 6}}}}
	for range 1 << 16 {
		block = []api.Stmt{{Kind: api.StmtTry, Body: block}}
	}
	Trace(one(block...), 0, nil, api.MaxSteps, 0, 10)
	for _, s := range []api.Source{
		one(),
		one(api.Stmt{}),
		one(api.Stmt{Kind: 99}),
		one(api.Stmt{Kind: -1}),
		one(api.Stmt{Kind: api.StmtDeclare}),
		one(api.Stmt{Kind: api.StmtDeclare, Var: -1}),
		one(api.Stmt{Kind: api.StmtAssign}),
		one(api.Stmt{Kind: api.StmtAssign, Target: []api.Expr{{}}}),
		one(api.Stmt{Kind: api.StmtCall, Callee: 1}),
		one(api.Stmt{Kind: api.StmtCall, Callee: -1}),
		one(api.Stmt{Kind: api.StmtCall, Args: []api.Expr{{}}}),
		one(api.Stmt{Kind: api.StmtCall, Target: []api.Expr{{}}}),
		one(api.Stmt{Kind: api.StmtIf}),
		one(api.Stmt{Kind: api.StmtWhile}),
		one(api.Stmt{Kind: api.StmtReturn}),
		one(api.Stmt{Kind: api.StmtReturn, Func: "f"}),
		one(api.Stmt{Kind: api.StmtReturn, Func: "f", Callee: 5}),
		one(api.Stmt{Kind: api.StmtThrow}),
		one(api.Stmt{Kind: api.StmtPrint}),
		one(api.Stmt{Kind: api.StmtTry, Body: []api.Stmt{{Kind: api.StmtThrow, Args: []api.Expr{{}}}}}),
		one(api.Stmt{Kind: api.StmtTry, Body: []api.Stmt{{Kind: api.StmtThrow}}}),
		one(api.Stmt{Id: -7, Kind: api.StmtEnd}),
		with(api.Expr{Op: -1}),
		with(api.Expr{Op: 99, Args: []api.Expr{{}, {}}}),
		with(api.Expr{Op: api.ExprAdd}),
		with(api.Expr{Op: api.ExprAdd, Args: []api.Expr{{}}}),
		with(api.Expr{Op: api.ExprNegate}),
		with(api.Expr{Op: api.ExprVariable, Var: 3}),
		with(api.Expr{Op: api.ExprField}),
		with(api.Expr{Op: api.ExprElement}),
		{Program: api.Program{Funcs: []api.Func{{Body: []api.Stmt{{Kind: api.StmtEnd}}}}}},
		{Program: api.Program{Funcs: []api.Func{{Params: []string{"a"}}}}, Vars: [][]api.VarInfo{{}}},
	} {
		for f := -1; f < 2; f++ {
			Trace(s, f, nil, 100, 0, 100)
			Trace(s, f, []int{1}, 100, 0, 100)
		}
	}
}

// A checked source in which anything is changed by chance ends without a panic.
func TestChangedSources(t *testing.T) {
	r := rand.New(rand.NewPCG(3, 4))
	checked, errors := source(t, busy), map[api.Errno]int{}
	for range 6000 {
		s := roomy(checked)
		for range 1 + r.IntN(3) {
			places := changeable(reflect.ValueOf(&s).Elem())
			change(r, places[r.IntN(len(places))])
		}
		args := []int{4, 1, 6}[:r.IntN(4)]
		if len(s.Program.Funcs) > 0 && r.IntN(9) > 0 {
			args = make([]int, len(s.Program.Funcs[0].Params))
			for i := range args {
				args[i] = 1 + r.IntN(3)
			}
		}
		events, o := Trace(s, 0, args, 300, r.IntN(3), 20)
		errors[o.Err]++
		if len(events) > 20 {
			t.Fatalf("P5.1: there are %d events", len(events))
		}
	}
	t.Logf("runs by error: %v", errors)
}

// changeable returns all numbers and slices of a value.
func changeable(v reflect.Value) []reflect.Value {
	l := []reflect.Value{}
	switch v.Kind() {
	case reflect.Int:
		l = append(l, v)
	case reflect.Slice:
		l = append(l, v)
		for i := range v.Len() {
			l = append(l, changeable(v.Index(i))...)
		}
	case reflect.Struct:
		for i := range v.NumField() {
			l = append(l, changeable(v.Field(i))...)
		}
	}
	return l
}

func change(r *rand.Rand, v reflect.Value) {
	numbers := []int{least, -1 << 40, -2, -1, 0, 1, 2, 3, 5, 9, 12, 1 << 20, 1 << 40, greatest}
	if v.Kind() == reflect.Int {
		v.SetInt(int64(numbers[r.IntN(len(numbers))]))
	} else {
		v.SetLen(r.IntN(v.Cap() + 1))
	}
}
