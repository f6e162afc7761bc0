package fold

import (
	"testing"

	"debugger/passes"
)

func TestRefused(t *testing.T) { passes.ExpectRefused(t, "P8.1", Fold) }

func TestLimits(t *testing.T) {
	got := passes.Result(t, "P8.1", Fold, passes.Largest(t))
	ops := got.Blocks[0].Ops
	if last := ops[len(ops)-1]; len(ops) < 4000 || last.A != 0 {
		t.Errorf("P8.2: the last of %d copies is %+v", len(ops), last)
	}
	for i, b := range got.Blocks[8:] {
		if b.Ops[1].N != 25 || b.Term.A != 0 {
			t.Fatalf("P8.2: block %d is %+v", i+8, b)
		}
	}
}
