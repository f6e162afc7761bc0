package merge

import (
	"math/rand/v2"
	"slices"
	"testing"

	"debugger/api"
	"debugger/modules"
	"debugger/notation"
	"debugger/passes"
)

// mergedModule returns a module of merged functions, each of which is checked against the second implementation.
func mergedModule(t *testing.T, m api.Module) api.Module {
	t.Helper()
	result := passes.Applied(t, "P9.1", Merge, reckon, m)
	for _, c := range result.Funcs {
		if again := Merge(c); !passes.Equal(again, c) {
			t.Fatalf("P9.1:\n%s\nis merged again, to\n%s", notation.Print(c), notation.Print(again))
		}
	}
	return result
}

// jumpingModule returns a module by chance in which many blocks jump to one that no other block jumps to, and some have values with great numbers.
func jumpingModule(r *rand.Rand) (api.Source, api.Module) {
	s, m := modules.Module(r.IntN)
	for f := range m.Funcs {
		c := &m.Funcs[f]
		for b, next := range r.Perm(len(c.Blocks)) {
			if next > 0 && r.IntN(3) > 0 {
				jump(r, c, b, next)
			}
			if r.IntN(4) == 0 {
				raise(&c.Blocks[b], 9999-r.IntN(8))
			}
		}
	}
	return s, m
}

// definitions returns the values that the operations of a block define.
func definitions(b api.Block) []int {
	list := []int{}
	for _, o := range b.Ops {
		if o.Kind <= api.OpLoad {
			list = append(list, o.Dst)
		}
	}
	return list
}

// jump lets a block of a code end with a jump to another one.
func jump(r *rand.Rand, c *api.Code, from, to int) {
	b := &c.Blocks[from]
	list := definitions(*b)
	for v := range b.Params {
		list = append(list, v)
	}
	way := api.Edge{Block: to}
	for range c.Blocks[to].Params {
		way.Args = append(way.Args, list[r.IntN(len(list))])
	}
	b.Term = api.Term{Kind: api.TermJump, To: [2]api.Edge{way, {Block: -1}}}
}

// raise makes the values that the operations of a block define greater, up to a number.
func raise(b *api.Block, greatest int) {
	list := definitions(*b)
	if len(list) == 0 {
		return
	}
	more := greatest - slices.Max(list)
	n := func(v int) int {
		if v >= b.Params {
			return v + more
		}
		return v
	}
	for i, o := range b.Ops {
		b.Ops[i] = passes.Renamed(o, n)
	}
	b.Term = passes.Ended(b.Term, n, func(block int) int { return block })
}

// left tells whether a merged code has a jump that is the only edge to another block: there were no numbers left for it.
func left(c api.Code) bool {
	leading := map[int]int{}
	for _, b := range c.Blocks {
		leading[b.Term.To[0].Block]++
		leading[b.Term.To[1].Block]++
	}
	for i, b := range c.Blocks {
		if to := b.Term.To[0].Block; b.Term.Kind == api.TermJump && to != i && leading[to] == 1 {
			return true
		}
	}
	return false
}

func TestModulesByChance(t *testing.T) {
	r := rand.New(rand.NewPCG(9, 1))
	joins, circles, kept := 0, 0, 0
	for range 3000 {
		_, m := jumpingModule(r)
		other := mergedModule(t, m)
		for f, c := range m.Funcs {
			got := other.Funcs[f]
			joins += len(c.Blocks) - len(got.Blocks)
			for b := range got.Blocks {
				if got.Blocks[b].Term.Kind == api.TermJump && got.Blocks[b].Term.To[0].Block == b {
					circles++
				}
			}
			if left(got) {
				kept++
			}
		}
	}
	t.Logf("%d joins, %d jumps of blocks to themselves, %d codes with a join that has no numbers left", joins, circles, kept)
	if joins < 5000 || circles < 500 || kept < 300 {
		t.Errorf("only %d joins, %d jumps of blocks to themselves, %d codes with a join that has no numbers left", joins, circles, kept)
	}
}

// Codes in which anything is changed come back as they are, or are merged if they are sound still.
func TestChangedCodes(t *testing.T) {
	r := rand.New(rand.NewPCG(9, 2))
	if sound := passes.ExpectChanged(t, "P9.1", Merge, reckon, r.IntN, 4000); sound < 500 || sound > 3000 {
		t.Errorf("%d of 4000 codes are sound", sound)
	}
}
