package behind

import (
	"testing"

	"debugger/api"
	"debugger/notation"
)

// block returns the block of a code with one block, as a text of package notation.
func block(t *testing.T, text string) api.Block {
	t.Helper()
	c, ok := notation.Parse(text)
	if !ok {
		t.Fatalf("%s is no code", text)
	}
	return c.Blocks[0]
}

func TestAdd(t *testing.T) {
	for _, c := range []struct {
		first, second string
		args          []int
		want          string
	}{
		{"(2) v2 = 1; return v0", "(0) v0 = 7; return v0", nil, "(2) v2 = 1; v3 = 7; return v3"},
		{"(3) print v1; return v0", "(2) v2 = v0 - v1; bind 0 to v2 + 1; bind 1 to v0; bind 2 to constant + 1; return v2", []int{2, 1}, "(3) print v1; v3 = v2 - v1; bind 0 to v3 + 1; bind 1 to v2; bind 2 to constant + 1; return v3"},
		{"(2) v9 = 4; v3 = 5; return v0", "(2) v5 = v1 * v0; v2 = v5 - v0; throw v2", []int{1, 0}, "(2) v9 = 4; v3 = 5; v10 = v0 * v1; v11 = v10 - v1; throw v11"},
		{"(1) return v0", "(2) branch v1 1(v0 v1) 2(v1)", []int{0, 0}, "(1) branch v0 1(v0 v0) 2(v0)"},
	} {
		b := block(t, c.first)
		Add(&b, block(t, c.second), c.args)
		got := notation.Print(api.Code{Params: b.Params, Blocks: []api.Block{b}, Contexts: []api.Context{{Parent: -1, Stmt: -1}}})
		if got != c.want+"\n" {
			t.Errorf("%s and\n%s become\n%snot\n%s", c.first, c.second, got, c.want)
		}
	}
}

func TestFits(t *testing.T) {
	for _, c := range []struct {
		first, second string
		want          bool
	}{
		{"(1) v9997 = 1; return v0", "(1) v1 = 2; v2 = copy v1; return v2", true},
		{"(1) v9998 = 1; return v0", "(1) v1 = 2; v2 = copy v1; return v2", false},
		{"(1) v9998 = 1; v5 = 1; return v0", "(1) v1 = 2; print v1; return v1", true},
		{"(1) v9999 = 1; return v0", "(1) print v0; mark 3; return v0", true},
		{"(1) v9999 = 1; v1 = 2; return v0", "(0) v0 = 2; return v0", false},
		{"(1) return v0", "(1) v9999 = 2; return v9999", true},
	} {
		if got := Fits(block(t, c.first), block(t, c.second)); got != c.want {
			t.Errorf("%s has numbers left for those of %s: %v", c.first, c.second, got)
		}
	}
}
