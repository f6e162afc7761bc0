package duplicate

import (
	"fmt"
	"math/rand/v2"
	"testing"

	"debugger/api"
	"debugger/modules"
)

// spoil changes everything in a code.
func spoil(c api.Code) {
	for b := range c.Blocks {
		ops, end := c.Blocks[b].Ops, c.Blocks[b].Term
		clear(ops[:cap(ops)])
		for _, list := range [][]int{end.Args, end.To[0].Args, end.To[1].Args} {
			clear(list[:cap(list)])
		}
	}
	clear(c.Blocks[:cap(c.Blocks)])
	clear(c.Contexts[:cap(c.Contexts)])
	clear(c.Objects[:cap(c.Objects)])
}

func TestCode(t *testing.T) {
	r := rand.New(rand.NewPCG(2, 1))
	for range 300 {
		_, m := modules.Module(r.IntN)
		for _, c := range m.Funcs {
			want := fmt.Sprint(c)
			first, second := Code(c), Code(c)
			if fmt.Sprint(first) != want {
				t.Fatalf("the copy of %s is %+v", want, first)
			}
			spoil(first)
			if fmt.Sprint(c) != want {
				t.Fatalf("a copy shares memory with %s", want)
			}
			spoil(c)
			if fmt.Sprint(second) != want {
				t.Fatalf("two copies share memory: %+v, not %s", second, want)
			}
		}
	}
}

func TestModule(t *testing.T) {
	r := rand.New(rand.NewPCG(2, 2))
	for range 300 {
		_, m := modules.Module(r.IntN)
		want := fmt.Sprint(m)
		first, second := Module(m), Module(m)
		if fmt.Sprint(first) != want {
			t.Fatalf("the copy of %s is %+v", want, first)
		}
		for _, c := range first.Funcs {
			spoil(c)
		}
		clear(first.Funcs)
		if fmt.Sprint(m) != want || fmt.Sprint(second) != want {
			t.Fatalf("a copy shares memory with %s", want)
		}
	}
}

// The memory behind the end of a list is no part of the copy.
func TestSpare(t *testing.T) {
	room := make([]int, 4)
	end := Term(api.Term{Kind: api.TermTail, Args: room[:0]})
	if cap(end.Args) > 0 {
		t.Error("the copy of an empty list has memory")
	}
	b := Block(api.Block{Ops: make([]api.Op, 2, 5), Term: api.Term{Args: room[:2]}})
	if len(b.Ops) != 2 || len(b.Term.Args) != 2 {
		t.Errorf("the copy is %+v", b)
	}
}
