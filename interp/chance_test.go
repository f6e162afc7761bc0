package interp

import (
	"fmt"
	"math/rand/v2"
	"strings"
	"testing"

	"debugger/api"
	"debugger/programs"
)

func TestProgramsByChance(t *testing.T) {
	r := rand.New(rand.NewPCG(7, 8))
	found := map[string]int{}
	deepest := 0
	for range 4000 {
		text, params := programs.Text(r.IntN)
		if len(text) > api.MaxText {
			continue
		}
		s := source(t, text)
		f := r.IntN(len(params))
		args := []int{}
		for range params[f] {
			args = append(args, edges[r.IntN(len(edges))])
		}
		steps := []int{20, 100, 300}[r.IntN(3)]
		events, o := whole(s, f, args, steps)
		wants, want := reckon(s, f, args, steps)
		if key(events) != key(wants) || key(o) != key(want) {
			t.Fatalf("P5.2: %s\nwith %v of f%d, %d steps: %d events and %s, not %d and %s", strings.ReplaceAll(text, "; ", ";\n"), args, f, steps, len(events), describe(o), len(wants), describe(want))
		}
		for _, e := range events {
			deepest = max(deepest, len(e.Frames))
		}
		found[fmt.Sprintf("error %d thrown %v", o.Err, o.Thrown)]++
	}
	t.Logf("runs: %v, at most %d activations", found, deepest)
	for _, kind := range []string{"error 0 thrown false", "error 0 thrown true", "error 13 thrown false", "error 5 thrown false"} {
		if found[kind] < 50 {
			t.Errorf("only %d runs have %s", found[kind], kind)
		}
	}
}
