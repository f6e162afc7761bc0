package checker

import (
	"math"
	"math/rand/v2"
	"slices"
	"testing"

	"debugger/api"
)

// Programs that Parse does not return: Check ends, with a source or an error.

// oddExpressions returns expressions of each kind, and of some that there are not, with too few and too many arguments.
func oddExpressions() []api.Expr {
	all := []api.Expr{}
	ops := []int{math.MinInt, -1, math.MaxInt}
	for op := range api.ExprNotEqual + 3 {
		ops = append(ops, op)
	}
	for _, op := range ops {
		for args := range 3 {
			for _, name := range []string{"a", "r", "t", "nothing"} {
				all = append(all, api.Expr{Op: op, Number: math.MinInt, Var: math.MaxInt, Name: name, Field: name, Args: make([]api.Expr, args)})
			}
		}
	}
	return all
}

// oddPrograms calls a function with programs in which a statement, of any kind, stands behind declarations of a, r and t.
func oddPrograms(s api.Stmt, check func(api.Program)) {
	for kind := -2; kind <= api.StmtEnd+2; kind++ {
		s.Kind = kind
		body := []api.Stmt{{Kind: api.StmtDeclare, Name: "r", Type: "R"}, {Kind: api.StmtDeclare, Name: "t", Len: 2}, s, {Kind: api.StmtEnd}, s}
		check(api.Program{Records: []api.Record{{Name: "R", Fields: []string{"a"}}, {}}, Funcs: []api.Func{{}, {Name: "f", Params: []string{"a"}, Body: body}}})
	}
}

// ends checks what holds for any program: Check ends without a panic, and has a source or an error.
func ends(t *testing.T) func(api.Program) {
	return func(p api.Program) {
		t.Helper()
		before := key(p)
		s, line, e := Check(p)
		if e == api.OK && (line != 0 || len(s.Vars) != len(p.Funcs)) || e != api.OK && key(s) != key(api.Source{}) {
			t.Errorf("P4: Check(%.300s) = %.300s, %d, %d", before, key(s), line, e)
		}
		if key(p) != before {
			t.Errorf("P2: Check changes its argument %.300s", before)
		}
		for f := range s.Vars {
			Visible(s, f, 1)
		}
	}
}

func TestOddStatements(t *testing.T) {
	for _, x := range oddExpressions() {
		for _, list := range [][]api.Expr{{x}, {x, x}, {{Op: api.ExprNot, Args: []api.Expr{x}}}, {{Op: api.ExprElement, Name: "t", Args: []api.Expr{{}, x}}}} {
			oddPrograms(api.Stmt{Target: list}, ends(t))
			oddPrograms(api.Stmt{Args: list, Func: "f"}, ends(t))
			oddPrograms(api.Stmt{Target: list, Args: list, Name: "a", Type: "R", Len: -1}, ends(t))
		}
	}
	for _, name := range []string{"", "a", "b", "R", "f"} {
		for _, size := range []int{math.MinInt, -1, 0, 9, math.MaxInt} {
			oddPrograms(api.Stmt{Name: name, Type: name, Func: name, Len: size, Line: size, Id: size, Var: size, Callee: size}, ends(t))
			oddPrograms(api.Stmt{Name: name, Func: name, Len: size}, ends(t))
			inner := []api.Stmt{{Kind: api.StmtEnd}, {Kind: api.StmtDeclare, Name: name, Len: size}, {Kind: api.StmtTry, Name: name}}
			oddPrograms(api.Stmt{Name: "c", Body: inner, Else: inner}, ends(t))
		}
	}
}

// A program with anything anywhere, by chance, always the same ones.
func TestOddPrograms(t *testing.T) {
	w := rand.New(rand.NewPCG(3, 4))
	for range 1000 {
		p := api.Program{}
		for range w.IntN(3) {
			p.Records = append(p.Records, api.Record{Name: oddName(w), Fields: oddNames(w)})
		}
		for range w.IntN(5) {
			p.Funcs = append(p.Funcs, api.Func{Name: oddName(w), Line: w.IntN(9) - 4, Params: oddNames(w), Body: oddBlock(w, 4)})
		}
		ends(t)(p)
	}
}

func oddName(w *rand.Rand) string { return string("abcdefgh"[w.IntN(8)]) }

func oddNames(w *rand.Rand) []string {
	l := []string{}
	for range w.IntN(4) {
		l = append(l, oddName(w))
	}
	return l
}

func oddBlock(w *rand.Rand, depth int) []api.Stmt {
	l := []api.Stmt{}
	for range w.IntN(depth + 1) {
		s := api.Stmt{Kind: w.IntN(api.StmtEnd+3) - 1, Name: oddName(w), Len: w.IntN(3) - 1, Target: oddList(w, 2), Args: oddList(w, 3), Body: oddBlock(w, depth-1), Else: oddBlock(w, depth-1)}
		if w.IntN(2) == 0 {
			s.Func = oddName(w)
		}
		if w.IntN(2) == 0 {
			s.Type = oddName(w)
		}
		l = append(l, s)
	}
	return l
}

func oddList(w *rand.Rand, depth int) []api.Expr {
	l := []api.Expr{}
	for range w.IntN(depth + 1) {
		l = append(l, api.Expr{Op: w.IntN(api.ExprNotEqual+4) - 1, Name: oddName(w), Field: oddName(w), Args: oddList(w, depth-1)})
	}
	return l
}

// A function without statements, and one without a StmtEnd.
func TestFunctionsWithoutEnd(t *testing.T) {
	p := api.Program{Funcs: []api.Func{{Name: "f", Params: []string{"a"}}, {Name: "g", Params: []string{"a"}, Body: []api.Stmt{{Kind: api.StmtPrint}}}, {Name: "h", Params: []string{"a"}}}}
	s, line, e := Check(p)
	if line != 0 || e != api.OK || scopes(s, 0) != "a 0--1" || scopes(s, 1) != "a 0-0" || scopes(s, 2) != "a 1-0" {
		t.Errorf("P4.3: Check = %+v, %d, %d", s, line, e)
	}
}

func TestLargePrograms(t *testing.T) {
	x := api.Expr{Op: api.ExprVariable, Name: "a"}
	s := api.Stmt{Kind: api.StmtPrint, Args: []api.Expr{x}}
	for range 1 << 14 {
		x = api.Expr{Op: api.ExprNegate, Args: []api.Expr{x}}
		s = api.Stmt{Kind: api.StmtWhile, Body: []api.Stmt{s}}
	}
	for _, body := range [][]api.Stmt{{{Kind: api.StmtPrint, Args: []api.Expr{x}}}, {s}, {{Kind: api.StmtTry, Else: []api.Stmt{s}}}, make([]api.Stmt, 1<<16)} {
		f := api.Func{Name: "f", Params: []string{"a"}, Body: body}
		if _, _, e := Check(api.Program{Funcs: []api.Func{f}}); e != api.OK && e != api.ErrLimit {
			t.Errorf("P1: Check of a large program has the error %d", e)
		}
		Check(api.Program{Funcs: slices.Repeat([]api.Func{f}, 9)})
	}
	Check(api.Program{Records: make([]api.Record, 1<<16), Funcs: make([]api.Func, 1<<16)})
	Check(api.Program{Records: []api.Record{{Fields: make([]string, 1<<16)}}, Funcs: []api.Func{{Params: make([]string, 1<<16)}}})
}
