package operation

import (
	"fmt"
	"iter"
	"testing"

	"debugger/api"
)

// negated puts the negative in the place of each value but 0, up to a number of them, and returns these as they were.
func negated(values iter.Seq[*int], most int) []int {
	list := []int{}
	for v := range values {
		list = append(list, *v)
		*v = -*v
		if len(list) == most {
			break
		}
	}
	return list
}

func TestValues(t *testing.T) {
	for kind := -1; kind <= api.OpBind+1; kind++ {
		used := []int{}
		a, b := Uses(kind)
		if a {
			used = append(used, 4)
		}
		if b {
			used = append(used, 5)
		}
		for most := 1; most <= len(used)+1; most++ {
			o := api.Op{Kind: kind, Dst: 3, A: 4, B: 5, N: 6, Ctx: 7, Var: 8, Piece: 9, Src: api.Src{Kind: api.SrcValue, Val: 10, Add: 11}}
			want := o
			if a {
				want.A = -4
			}
			if b && most > 1 {
				want.B = -5
			}
			got := negated(Values(&o), most)
			if fmt.Sprint(got) != fmt.Sprint(used[:min(most, len(used))]) || o != want {
				t.Errorf("the values of the kind %d are %v, and it becomes %+v", kind, got, o)
			}
		}
	}
}

func TestLeaving(t *testing.T) {
	for kind := -1; kind <= api.TermTail+1; kind++ {
		used := []int{2, 3, 4, 5, 6, 7}
		if kind == api.TermBranch || kind == api.TermReturn || kind == api.TermThrow {
			used = []int{1, 2, 3, 4, 5, 6, 7}
		}
		for most := 1; most <= len(used)+1; most++ {
			end := api.Term{Kind: kind, A: 1, N: 9, Args: []int{2, 3}, To: [2]api.Edge{{Block: 8, Args: []int{4, 5}}, {Block: 7, Args: []int{6, 7}}}}
			got := negated(Leaving(&end), most)
			want := used[:min(most, len(used))]
			if fmt.Sprint(got) != fmt.Sprint(want) || end.N != 9 || end.To[0].Block != 8 || end.To[1].Block != 7 {
				t.Errorf("the values of the kind %d are %v, and it becomes %+v", kind, got, end)
			}
			if last := end.To[1].Args[1]; (last == -7) != (most >= len(used)) {
				t.Errorf("the last argument of the kind %d is %d", kind, last)
			}
		}
	}
}

func TestEnding(t *testing.T) {
	for kind := -1; kind <= api.TermTail+1; kind++ {
		used := []int{2, 3}
		if kind == api.TermBranch || kind == api.TermReturn || kind == api.TermThrow {
			used = []int{1, 2, 3}
		}
		for most := 1; most <= len(used)+1; most++ {
			end := api.Term{Kind: kind, A: 1, N: 9, Args: []int{2, 3}, To: [2]api.Edge{{Block: 8, Args: []int{4}}, {Block: 7, Args: []int{6}}}}
			got := negated(Ending(&end), most)
			if fmt.Sprint(got) != fmt.Sprint(used[:min(most, len(used))]) || end.N != 9 || end.To[0].Args[0] != 4 || end.To[1].Args[0] != 6 {
				t.Errorf("the values of the kind %d itself are %v, and it becomes %+v", kind, got, end)
			}
			if last := end.Args[1]; (last == -3) != (most >= len(used)) {
				t.Errorf("the last of the Args of the kind %d is %d", kind, last)
			}
		}
	}
}

func TestEdges(t *testing.T) {
	for _, c := range []struct{ first, second, most int }{{-1, -1, 2}, {0, -1, 2}, {5, -1, 2}, {-1, 5, 2}, {3, 4, 2}, {3, 4, 1}, {4, 4, 2}} {
		end := api.Term{Kind: api.TermBranch, To: [2]api.Edge{{Block: c.first}, {Block: c.second}}}
		want, after := []int{}, end.To
		for i, e := range end.To {
			if e.Block >= 0 && len(want) < c.most {
				want = append(want, e.Block)
				after[i].Block += 10
			}
		}
		got := []int{}
		for e := range Edges(&end) {
			got = append(got, e.Block)
			e.Block += 10
			if len(got) == c.most {
				break
			}
		}
		if fmt.Sprint(got) != fmt.Sprint(want) || fmt.Sprint(end.To) != fmt.Sprint(after) {
			t.Errorf("the edges of %+v lead to %v, and become %v", c, got, end.To)
		}
	}
}
