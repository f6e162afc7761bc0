package lower

import (
	"math/rand/v2"
	"reflect"
	"testing"

	"debugger/api"
)

// expectEnd checks what holds for any source: Lower ends without a panic, and with an error it has no module.
func expectEnd(t *testing.T, s api.Source) api.Errno {
	t.Helper()
	m, e := Lower(s)
	if e != api.OK && len(m.Funcs) > 0 {
		t.Errorf("P4: Lower of %.300s has the error %d and a module", key(s), e)
	}
	return e
}

// one returns the source of a function with a variable of each kind and these statements.
func one(list ...api.Stmt) api.Source {
	vars := []api.VarInfo{{Kind: api.VarScalar, Words: 1, To: 99}, {Kind: api.VarRecord, Words: 2, To: 99}, {Kind: api.VarArray, Words: 3, To: 99}}
	return api.Source{Program: api.Program{Funcs: []api.Func{{Name: "f", Body: list}}}, Vars: [][]api.VarInfo{vars}}
}

// withExpression returns the source of a function that returns an expression.
func withExpression(x api.Expr) api.Source {
	return one(api.Stmt{Kind: api.StmtReturn, Args: []api.Expr{x}})
}

// Sources that Check does not return end without a panic.
func TestOtherSources(t *testing.T) {
	literal := []api.Expr{{}}
	for _, s := range []api.Source{
		one(),
		one(api.Stmt{}),
		one(api.Stmt{Kind: 99}),
		one(api.Stmt{Kind: -1}),
		one(api.Stmt{Kind: api.StmtPrint, Args: literal}),
		one(api.Stmt{Kind: api.StmtDeclare, Var: 3}),
		one(api.Stmt{Kind: api.StmtDeclare, Var: -1}),
		one(api.Stmt{Kind: api.StmtAssign}),
		one(api.Stmt{Kind: api.StmtAssign, Args: literal}),
		one(api.Stmt{Kind: api.StmtAssign, Target: literal, Args: literal}),
		one(api.Stmt{Kind: api.StmtAssign, Target: []api.Expr{{Op: api.ExprElement, Var: 2}}, Args: literal}),
		one(api.Stmt{Kind: api.StmtCall, Target: literal}),
		one(api.Stmt{Kind: api.StmtCall, Target: []api.Expr{{Op: api.ExprElement, Var: 2, Args: literal}}}),
		one(api.Stmt{Kind: api.StmtIf}),
		one(api.Stmt{Kind: api.StmtWhile}),
		one(api.Stmt{Kind: api.StmtReturn}),
		one(api.Stmt{Kind: api.StmtThrow}),
		one(api.Stmt{Kind: api.StmtPrint}),
		one(api.Stmt{Kind: api.StmtTry}),
		one(api.Stmt{Kind: api.StmtTry, Body: []api.Stmt{{Kind: api.StmtThrow}}}),
		withExpression(api.Expr{Op: -1}),
		withExpression(api.Expr{Op: least, Args: []api.Expr{{}, {}}}),
		withExpression(api.Expr{Op: api.ExprNotEqual + 1, Args: []api.Expr{{}, {}}}),
		withExpression(api.Expr{Op: api.ExprAdd}),
		withExpression(api.Expr{Op: api.ExprAdd, Args: literal}),
		withExpression(api.Expr{Op: api.ExprDiv, Args: literal}),
		withExpression(api.Expr{Op: api.ExprNegate}),
		withExpression(api.Expr{Op: api.ExprNot}),
		withExpression(api.Expr{Op: api.ExprElement, Var: 2}),
		withExpression(api.Expr{Op: api.ExprElement, Var: 3, Args: literal}),
		withExpression(api.Expr{Op: api.ExprElement, Var: -1, Args: literal}),
		{Program: api.Program{Funcs: []api.Func{{Body: []api.Stmt{{Kind: api.StmtEnd}}}}}},
	} {
		if e := expectEnd(t, s); e != api.ErrForm {
			t.Errorf("P1: Lower of %.300s has the error %d", key(s), e)
		}
	}
	for _, s := range []api.Source{
		one(api.Stmt{Id: -7, Kind: api.StmtEnd}),
		one(api.Stmt{Kind: api.StmtCall, Callee: -1}, api.Stmt{Kind: api.StmtEnd}),
		one(api.Stmt{Kind: api.StmtCall, Callee: 5, Args: make([]api.Expr, 9)}, api.Stmt{Kind: api.StmtEnd}),
		one(api.Stmt{Kind: api.StmtEnd}, api.Stmt{Kind: api.StmtEnd}),
		withExpression(api.Expr{Op: api.ExprVariable, Var: 5}),
		withExpression(api.Expr{Op: api.ExprVariable, Var: least}),
		withExpression(api.Expr{Op: api.ExprField, Var: 1, Number: greatest}),
		withExpression(api.Expr{Op: api.ExprElement, Var: 1, Args: literal}),
	} {
		expectEnd(t, s)
	}
}

func TestLargeSources(t *testing.T) {
	for _, op := range []int{api.ExprNegate, api.ExprNot, api.ExprElement, api.ExprMod} {
		nested := api.Expr{Number: 4}
		for range 1 << 16 {
			nested = api.Expr{Op: op, Var: 2, Args: []api.Expr{nested, {}}}
		}
		if e := expectEnd(t, withExpression(nested)); e != api.ErrLimit {
			t.Errorf("P7.1: 2^16 levels of the operator %d have the error %d", op, e)
		}
	}
	for _, kind := range []int{api.StmtIf, api.StmtWhile, api.StmtTry} {
		block := []api.Stmt{{Kind: api.StmtThrow, Args: []api.Expr{{}}}}
		for range 1 << 16 {
			block = []api.Stmt{{Kind: kind, Args: []api.Expr{{}}, Body: block}}
		}
		if e := expectEnd(t, one(block...)); e != api.ErrLimit {
			t.Errorf("P7.1: 2^16 levels of the kind %d have the error %d", kind, e)
		}
	}
	for _, words := range []int{least, -1, 0, api.MaxFields + 1, 1 << 40, 1 << 60, greatest} {
		for kind := range 5 {
			s := one(api.Stmt{Kind: api.StmtDeclare}, api.Stmt{Kind: api.StmtCall, Target: []api.Expr{{Op: api.ExprVariable}}}, api.Stmt{Kind: api.StmtEnd})
			s.Vars[0][0].Kind, s.Vars[0][0].Words = kind, words
			expectEnd(t, s)
		}
	}
	s := one(api.Stmt{Kind: api.StmtEnd})
	s.Program.Funcs[0].Params = make([]string, 1<<20)
	if e := expectEnd(t, s); e != api.ErrLimit {
		t.Errorf("P7.1: 2^20 parameters have the error %d", e)
	}
	s = one(api.Stmt{Kind: api.StmtCall}, api.Stmt{Kind: api.StmtEnd})
	for range 1 << 16 {
		s.Vars[0] = append(s.Vars[0], s.Vars[0][1])
	}
	if e := expectEnd(t, s); e != api.ErrLimit {
		t.Errorf("P7.1: 2^16 variables have the error %d", e)
	}
}

// A checked source in which anything is changed by chance ends without a panic.
func TestChangedSources(t *testing.T) {
	r := rand.New(rand.NewPCG(7, 3))
	checked, errors := source(t, busy), map[api.Errno]int{}
	for range 4000 {
		s := roomy(checked)
		for range 1 + r.IntN(3) {
			places := changeable(reflect.ValueOf(&s).Elem())
			change(r, places[r.IntN(len(places))])
		}
		errors[expectEnd(t, s)]++
	}
	t.Logf("sources by error: %v", errors)
	if errors[api.OK] < 100 || errors[api.ErrForm] < 100 {
		t.Errorf("sources by error: %v", errors)
	}
}

// changeable returns all numbers and slices of a value.
func changeable(v reflect.Value) []reflect.Value {
	l := []reflect.Value{}
	if v.Kind() == reflect.Int || v.Kind() == reflect.Slice {
		l = append(l, v)
	}
	for _, x := range parts(v) {
		l = append(l, changeable(x)...)
	}
	return l
}

func change(r *rand.Rand, v reflect.Value) {
	numbers := []int{least, -1 << 40, -2, -1, 0, 1, 2, 3, 5, 9, 12, 1 << 20, 1 << 40, greatest}
	if v.Kind() == reflect.Int {
		v.SetInt(int64(numbers[r.IntN(len(numbers))]))
	} else {
		v.SetLen(r.IntN(v.Cap() + 1))
	}
}
