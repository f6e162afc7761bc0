package programs

import (
	"math/rand/v2"
	"testing"

	"debugger/api"
	"debugger/checker"
	"debugger/parser"
)

// count counts the kinds of statements, and the operators of expressions as numbers below 0.
func count(list []api.Stmt, found map[int]int) {
	for _, s := range list {
		found[s.Kind]++
		countIn(s.Target, found)
		countIn(s.Args, found)
		count(s.Body, found)
		count(s.Else, found)
	}
}

func countIn(list []api.Expr, found map[int]int) {
	for _, x := range list {
		found[-x.Op]++
		countIn(x.Args, found)
	}
}

func TestText(t *testing.T) {
	r, again := rand.New(rand.NewPCG(1, 2)), rand.New(rand.NewPCG(1, 2))
	found, long := map[int]int{}, 0
	for range 500 {
		text, params := Text(r.IntN)
		if other, _ := Text(again.IntN); other != text {
			t.Fatalf("the same choices lead to %q and %q", text, other)
		}
		if len(text) > api.MaxText {
			long++
			continue
		}
		p, line, e := parser.Parse(text)
		if e != api.OK {
			t.Fatalf("%q has the error %d in line %d", text, e, line)
		}
		s, line, e := checker.Check(p)
		if e != api.OK {
			t.Fatalf("%q has the error %d in line %d", text, e, line)
		}
		for f, fn := range s.Program.Funcs {
			if len(params) != len(s.Program.Funcs) || len(fn.Params) != params[f] {
				t.Fatalf("%q has other parameters than %v", text, params)
			}
			count(fn.Body, found)
		}
	}
	if long > 100 {
		t.Errorf("%d of 500 texts are too long", long)
	}
	for kind := -api.ExprNotEqual; kind <= api.StmtEnd; kind++ {
		if found[kind] < 50 {
			t.Errorf("there are only %d of the kind %d", found[kind], kind)
		}
	}
}
