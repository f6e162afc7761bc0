package alloc

import (
	"math/rand/v2"
	"slices"
	"testing"

	"debugger/api"
	"debugger/checker"
	"debugger/ir"
	"debugger/lower"
	"debugger/modules"
	"debugger/notation"
	"debugger/operation"
	"debugger/optimised"
	"debugger/parser"
	"debugger/passes"
)

// tally counts the places of values: registers and slots of parameters, and those of other values, those that values have only with keep, and save slots.
type tally struct{ registers, params, taken, spills, kept, saves int }

func (x *tally) count(c api.Code, l api.Layout) {
	for i, b := range c.Blocks {
		for v, p := range l.Places[i] {
			switch {
			case p.Kind == api.PlaceReg && v < b.Params:
				x.registers++
			case p.Kind == api.PlaceReg:
				x.taken++
			case p.Kind == api.PlaceSlot && v < b.Params:
				x.params++
			case p.Kind == api.PlaceSlot:
				x.spills++
			}
		}
	}
	x.saves += l.Saves
}

// expectLayout checks the layouts of a code against the second implementation, and that values that are in use keep their places.
func (x *tally) expectLayout(t *testing.T, c api.Code) {
	t.Helper()
	for _, keep := range []bool{false, true} {
		l := layout(t, c, keep)
		if want := reckon(c, keep); !equal(l, want) {
			t.Fatalf("P15.1 to P15.5: with keep %t the layout is\n%+v, not\n%+v, for\n%s", keep, l, want, notation.Print(c))
		}
		for i, b := range c.Blocks {
			if !slices.Equal(Saved(b), reckonSaved(b)) {
				t.Fatalf("P15.4: %v is saved in block %d of\n%s", Saved(b), i, notation.Print(c))
			}
			expectHeld(t, c, i, l.Places[i], keep)
		}
		expectFrameApart(t, c, l)
		x.count(c, l)
	}
	if !equal(Allocate(c, false), Allocate(c, true)) {
		x.kept++
	}
}

// holder knows which value lies in which place while a block is executed.
type holder struct {
	t      *testing.T
	about  func() string
	places []api.Place
	holds  map[api.Place]int
}

func (h *holder) put(v int) { h.holds[h.places[v]] = v }

func (h *holder) expect(v int) {
	h.t.Helper()
	if got, ok := h.holds[h.places[v]]; !ok || got != v {
		h.t.Fatalf("P15.3: value %d is not in its place %+v any more, but value %d, in %s", v, h.places[v], got, h.about())
	}
}

// expectHeld checks that each value is in its place wherever it is used, and with keep wherever a position shows it.
func expectHeld(t *testing.T, c api.Code, block int, places []api.Place, keep bool) {
	t.Helper()
	b, defined, shows := c.Blocks[block], map[int]bool{}, map[piece]int{}
	about := func() string { return notation.Print(api.Code{Blocks: []api.Block{b}, Contexts: c.Contexts}) }
	h := &holder{t, about, places, map[api.Place]int{}}
	for v := range b.Params {
		h.put(v)
		defined[v] = true
	}
	for v := range b.Params {
		h.expect(v)
	}
	for _, o := range b.Ops {
		for v := range operation.Values(&o) {
			h.expect(*v)
		}
		switch {
		case operation.Defines(o.Kind):
			h.put(o.Dst)
			defined[o.Dst] = true
		case o.Kind == api.OpBind:
			delete(shows, piece{o.Ctx, o.Var, o.Piece})
			if o.Src.Kind == api.SrcValue {
				shows[piece{o.Ctx, o.Var, o.Piece}] = o.Src.Val
			}
		case keep && (o.Kind == api.OpMark || o.Kind == api.OpAt):
			for _, v := range shows {
				if defined[v] {
					h.expect(v)
				}
			}
		}
	}
	for _, v := range endUses(b.Term) {
		h.expect(v)
	}
}

// expectFrameApart checks that values lie in the slots for them, and that nothing else of the frame does.
func expectFrameApart(t *testing.T, c api.Code, l api.Layout) {
	t.Helper()
	for _, places := range l.Places {
		for v, p := range places {
			if p.Add != 0 || p.Kind == api.PlaceSlot && (p.N < 0 || p.N >= l.Slots) || p.Kind == api.PlaceReg && (p.N < 1 || p.N > 12) {
				t.Fatalf("P15.3: the place of value %d is %+v in\n%s", v, p, notation.Print(c))
			}
		}
	}
	next := l.Slots + l.Saves
	for i, o := range c.Objects {
		if l.Objects[i] != next {
			t.Fatalf("P15.5: the objects are at %v in\n%s", l.Objects, notation.Print(c))
		}
		next += o.Words
	}
	if l.Size != next {
		t.Fatalf("P15.5: the size is %d in\n%s", l.Size, notation.Print(c))
	}
}

func TestModulesByChance(t *testing.T) {
	r := rand.New(rand.NewPCG(15, 1))
	x := tally{}
	for range 1000 {
		_, narrow := modules.Module(r.IntN)
		_, wide := modules.Wide(r.IntN)
		for _, c := range append(narrow.Funcs, wide.Funcs...) {
			x.expectLayout(t, c)
		}
	}
	t.Logf("%+v", x)
	if min(x.registers, x.params, x.taken, x.spills, x.saves) < 5000 || x.kept < 1000 {
		t.Errorf("only %+v", x)
	}
}

// Codes in which anything is changed have a zero layout, unless they are sound still.
func TestChangedCodes(t *testing.T) {
	r := rand.New(rand.NewPCG(15, 2))
	x, sound := tally{}, 0
	for range 4000 {
		_, m := modules.Module(r.IntN)
		c := passes.Changed(r.IntN, m.Funcs[0])
		if r.IntN(2) > 0 {
			c = passes.Changed(r.IntN, c)
		}
		if ir.CheckCode(c) == api.OK {
			sound++
			x.expectLayout(t, c)
			continue
		}
		if l := Allocate(c, r.IntN(2) > 0); !zero(l) {
			t.Fatalf("P15.5: the layout is %+v for\n%s", l, notation.Print(c))
		}
	}
	if sound < 500 || sound > 3000 {
		t.Errorf("%d of 4000 codes are sound", sound)
	}
}

// Blocks in which anything is changed save what their edges say.
func TestChangedBlocks(t *testing.T) {
	r := rand.New(rand.NewPCG(15, 3))
	saved := 0
	for range 4000 {
		_, m := modules.Module(r.IntN)
		for _, b := range passes.Changed(r.IntN, m.Funcs[0]).Blocks {
			got := Saved(b)
			if !slices.Equal(got, reckonSaved(b)) {
				t.Fatalf("P15.4: %v is saved by %+v", got, b)
			}
			saved += len(got)
		}
	}
	if saved < 1000 {
		t.Errorf("only %d values are saved", saved)
	}
}

// The code of programs has layouts behind the passes of every level.
func TestProgramsByChance(t *testing.T) {
	r := rand.New(rand.NewPCG(15, 4))
	levels := [3]tally{}
	for range 500 {
		_, m := passes.Program(t, r.IntN)
		for level := range levels {
			for _, c := range optimised.Module(m, level).Funcs {
				levels[level].expectLayout(t, c)
			}
		}
	}
	t.Logf("%+v", levels)
	for _, x := range levels {
		if min(x.registers, x.taken) < 5000 || x.saves < 400 || x.kept < 70 {
			t.Errorf("only %+v", x)
		}
	}
	if levels[0].params < 500 || levels[0].spills < 50 {
		t.Errorf("only %+v", levels[0])
	}
}

// The code of a program with many variables that are needed at one time has values in slots at every level.
func TestManyVariables(t *testing.T) {
	text := "func f(n) {"
	for v := range 20 {
		text += number(" var a", v) + number(": int; a", v) + number(" = n * ", v+2) + ";"
	}
	text += " while n {"
	for v := range 20 {
		text += number(" a", v) + number(" = a", v) + number(" + a", (v+7)%20) + ";"
	}
	text += " n = f(n - 1); }"
	for v := range 20 {
		text += number(" print a", v) + ";"
	}
	p, _, _ := parser.Parse(text + " }")
	s, _, _ := checker.Check(p)
	m, e := lower.Lower(s)
	if e != api.OK || len(m.Funcs) != 1 {
		t.Fatalf("the error is %d", e)
	}
	for level := range 3 {
		x := tally{}
		x.expectLayout(t, optimised.Module(m, level).Funcs[0])
		t.Logf("%+v", x)
		if x.params < 20 || x.spills < 20 || x.saves < 20 {
			t.Errorf("at level %d only %+v", level, x)
		}
	}
}
