package alloc

import (
	"slices"
	"testing"

	"debugger/api"
	"debugger/duplicate"
	"debugger/ir"
	"debugger/passes"
)

// to returns an edge.
func to(block int, args ...int) api.Edge { return api.Edge{Block: block, Args: args} }

// calling returns a block whose terminator is a call.
func calling(first, second api.Edge) api.Block {
	return api.Block{Term: api.Term{Kind: api.TermCall, To: [2]api.Edge{first, second}}}
}

func expectSaved(t *testing.T, b api.Block, want ...int) {
	t.Helper()
	before := duplicate.Block(b)
	got := Saved(b)
	if !slices.Equal(got, want) {
		t.Errorf("P15.4: %v is saved, not %v, by %+v", got, want, b)
	}
	clear(got[:cap(got)])
	if !slices.Equal(b.Term.To[0].Args, before.Term.To[0].Args) || !slices.Equal(b.Term.To[1].Args, before.Term.To[1].Args) || !slices.Equal(Saved(b), want) {
		t.Errorf("P2: the block is changed, or changes with what is saved: %+v", before)
	}
}

// The values of the first edge come first, in order, then those of the second edge that are not among them, each once.
func TestSaved(t *testing.T) {
	expectSaved(t, calling(to(1), to(-1)))
	expectSaved(t, calling(to(1, 3), to(-1)), 3)
	expectSaved(t, calling(to(1, 5, 3, 4), to(-1)), 5, 3, 4)
	expectSaved(t, calling(to(1, 5, 3, 5, 5, 4, 3), to(-1)), 5, 3, 4)
	expectSaved(t, calling(to(1, 2, 1), to(2, 4, 3)), 2, 1, 4, 3)
	expectSaved(t, calling(to(1, 2, 1), to(2, 1, 2)), 2, 1)
	expectSaved(t, calling(to(1, 2, 1), to(1, 9, 1, 7, 2, 9, 8)), 2, 1, 9, 7, 8)
	expectSaved(t, calling(to(1), to(2, 6, 0, 6)), 6, 0)
	expectSaved(t, calling(to(1, 0), to(2)), 0)
}

// Args of the call and its other fields are not saved, nor is what the operations use.
func TestNotSaved(t *testing.T) {
	b := calling(to(1, 4), to(-1))
	b.Params, b.Term.A, b.Term.N, b.Term.Args = 3, 2, 7, []int{0, 1, 2}
	b.Ops = []api.Op{{Kind: api.OpConst, Dst: 4}, {Kind: api.OpPrint, A: 1}, {Kind: api.OpBind, Src: api.Src{Kind: api.SrcValue}}, {Kind: api.OpMark}}
	expectSaved(t, b, 4)
}

// Blocks with other terminators, also of unknown kinds, save nothing.
func TestOtherTerminators(t *testing.T) {
	for _, kind := range []int{-1 << 63, -1, 0, api.TermJump, api.TermBranch, api.TermReturn, api.TermThrow, api.TermTail, api.TermTail + 1, 1<<63 - 1} {
		b := calling(to(1, 2, 3), to(2, 4))
		b.Term.Kind, b.Term.Args = kind, []int{2}
		expectSaved(t, b)
	}
	expectSaved(t, api.Block{})
}

// Every block is accepted: only edges whose block is at least 0 count, wherever they lead, and values may be any numbers.
func TestEveryBlock(t *testing.T) {
	expectSaved(t, calling(to(-1, 1, 2), to(2, 3, 1)), 3, 1)
	expectSaved(t, calling(to(0, 1, 2), to(-1, 3)), 1, 2)
	expectSaved(t, calling(to(0, 1, 2), to(0, 3, 2)), 1, 2, 3)
	expectSaved(t, calling(to(-1, 1), to(-2, 3)))
	expectSaved(t, calling(to(-1<<63, 1), to(1<<63-1, 4, 3)), 4, 3)
	expectSaved(t, calling(to(1000, -1, -1<<63, 1<<63-1, -1), to(2, 1<<63-1, 10000)), -1, -1<<63, 1<<63-1, 10000)
}

// Many values are saved at once.
func TestManySaved(t *testing.T) {
	args, want := []int{}, []int{}
	for v := range 300000 {
		args, want = append(args, v, v/2), append(want, v)
	}
	expectSaved(t, calling(to(1, args...), to(2, args...)), want...)
}

// The block that saves the most values decides how many save slots there are.
func TestSaveSlots(t *testing.T) {
	ends := lines("", "(1) return v0", "(2) throw v0", "(4) return v3", "(3) return v0")
	for end, want := range map[string]int{
		"call 0() 2()":                  0,
		"call 0(v0 v1 v2) 2()":          0,
		"call 0() 3(v0)":                1,
		"call 0() 3(v0) 3(v0)":          1,
		"call 0() 3(v0) 3(v2)":          2,
		"call 0() 4(v0 v1 v2)":          3,
		"call 0() 4(v2 v1 v0) 3(v1)":    3,
		"call 0() 4(v0 v0 v2)":          2,
		"call 0() 2() 4(v1 v1 v1)":      1,
		"call 0() 4(v1 v2 v1) 5(v0 v1)": 3,
		"jump 4(v0 v1 v2 v0)":           0,
		"branch v0 2(v0) 3(v0 v1)":      0,
		"tail 0(v0 v1 v2)":              0,
		"return v0":                     0,
	} {
		expectFrame(t, "P15.4", "(3) jump 1(v0 v1 v2)\n(3) "+end+ends, frame{0, want, nil, want})
		expectFrame(t, "P15.4", "(3) call 0() 3(v1)\n(3) "+end+ends, frame{0, max(want, 1), nil, max(want, 1)})
		expectFrame(t, "P15.4", "(3) "+end+"\n(3) call 0() 3(v1) 3(v0)"+ends, frame{0, max(want, 2), nil, max(want, 2)})
	}
}

// What a layout says about save slots is what Saved says.
func TestSavedOfSoundCode(t *testing.T) {
	c := passes.Parse(t, lines("(2) v2 = 5; call 0(v2) 1(v2 v0) 2(v1 v2 v1)", "(3) call 0(v0) 1(v2 v2) 1(v1 v1)", "(4) return v3"))
	if e := ir.CheckCode(c); e != api.OK {
		t.Fatal(e)
	}
	expectSaved(t, c.Blocks[0], 2, 0, 1)
	expectSaved(t, c.Blocks[1], 2, 1)
	expectSaved(t, c.Blocks[2])
	for _, keep := range []bool{false, true} {
		if l := Allocate(c, keep); l.Saves != 3 || l.Slots != 0 || l.Size != 3 {
			t.Errorf("P15.4: the layout is %+v", l)
		}
	}
}
