package fold

import (
	"fmt"
	"slices"
	"testing"

	"debugger/api"
	"debugger/passes"
)

func TestExample(t *testing.T) {
	expectCode(t, "P8.2", "(1) v1 = 2; v2 = v0 * v1; v3 = copy v2; bind 4 to v3; return v3", "(1) v1 = 2; v2 = v0 * v1; v3 = copy v2; bind 4 to v2; return v2")
}

func TestEmpty(t *testing.T) {
	expectCode(t, "P8.1", "(1) return v0", "(1) return v0")
	expectCode(t, "P8.1", "(0) jump 1()\n(0) jump 1()", "(0) jump 1()\n(0) jump 1()")
}

// signs are the operators from OpAdd on.
var signs = [...]string{"+", "-", "*", "/", "%", "&", "|", "^", "<", "<=", "==", "!="}

func TestConstants(t *testing.T) {
	for _, c := range []struct {
		a, b int
		want [12]int
	}{
		{least, least, [...]int{0, 0, 0, 1, 0, least, least, 0, 0, 1, 1, 0}},
		{least, greatest, [...]int{-1, 1, least, -1, -1, 0, -1, -1, 1, 1, 0, 1}},
		{greatest, least, [...]int{-1, -1, least, 0, greatest, 0, -1, -1, 0, 0, 0, 1}},
		{greatest, greatest, [...]int{-2, 0, 1, 1, 0, greatest, greatest, 0, 0, 1, 1, 0}},
		{least, -1, [...]int{greatest, -9223372036854775807, least, least, 0, least, -1, greatest, 1, 1, 0, 1}},
		{-1, least, [...]int{greatest, greatest, least, 0, -1, least, -1, greatest, 0, 0, 0, 1}},
		{greatest, -1, [...]int{9223372036854775806, least, -9223372036854775807, -9223372036854775807, 0, greatest, -1, least, 0, 0, 0, 1}},
		{-1, greatest, [...]int{9223372036854775806, least, -9223372036854775807, 0, -1, greatest, -1, least, 1, 1, 0, 1}},
		{least, 2, [...]int{-9223372036854775806, 9223372036854775806, 0, -4611686018427387904, 0, 0, -9223372036854775806, -9223372036854775806, 1, 1, 0, 1}},
		{greatest, 3, [...]int{-9223372036854775806, 9223372036854775804, 9223372036854775805, 3074457345618258602, 1, 3, greatest, 9223372036854775804, 0, 0, 0, 1}},
		{0, least, [...]int{least, least, 0, 0, 0, 0, least, least, 0, 0, 0, 1}},
		{7, 2, [...]int{9, 5, 14, 3, 1, 2, 7, 5, 0, 0, 0, 1}},
		{-7, 2, [...]int{-5, -9, -14, -3, -1, 0, -5, -5, 1, 1, 0, 1}},
		{7, -2, [...]int{5, 9, -14, -3, 1, 6, -1, -7, 0, 0, 0, 1}},
		{-7, -2, [...]int{-9, -5, 14, 3, -1, -8, -1, 7, 1, 1, 0, 1}},
		{-1, 1, [...]int{0, -2, -1, -1, 0, 1, -1, -2, 1, 1, 0, 1}},
		{1, 1, [...]int{2, 0, 1, 1, 0, 1, 1, 0, 0, 1, 1, 0}},
		{0, 1, [...]int{1, -1, 0, 0, 0, 0, 1, 1, 1, 1, 0, 1}},
		{5, 5, [...]int{10, 0, 25, 1, 0, 5, 5, 0, 0, 1, 1, 0}},
	} {
		for i, sign := range signs {
			known := fmt.Sprintf("v4 = %d; v3 = %d; ", c.a, c.b)
			expectOps(t, "P8.2", known+"v7 = v4 "+sign+" v3", known+fmt.Sprintf("v7 = %d", c.want[i]))
			// The value is known from then on.
			expectOps(t, "P8.2", known+"v7 = v4 "+sign+" v3; v5 = copy v7; bind 1 to v7 + 2", known+fmt.Sprintf("v7 = %d; v5 = %d; bind 1 to constant + %d", c.want[i], c.want[i], c.want[i]+2))
		}
	}
}

// An operation with the divisor 0 is not computed, and its value is not known.
func TestDivisionByZero(t *testing.T) {
	for _, n := range []int{0, 1, -1, 7, least, greatest} {
		for _, sign := range []string{"/", "%"} {
			stays := fmt.Sprintf("v2 = %d; v3 = 0; v4 = v2 %s v3; v5 = copy v4; bind 1 to v4; v6 = v4 + v2", n, sign)
			want := stays
			if n == 0 {
				want = fmt.Sprintf("v2 = %d; v3 = 0; v4 = v2 %s v3; v5 = copy v4; bind 1 to v4; v6 = copy v4", n, sign)
			}
			expectOps(t, "P8.2", stays, want)
			expectOps(t, "P8.2", fmt.Sprintf("v3 = 0; v4 = v1 %s v3", sign), fmt.Sprintf("v3 = 0; v4 = v1 %s v3", sign))
		}
	}
}

// identities are the operations with a constant that leave the other operand as it is.
var identities = map[string]bool{"x + 0": true, "0 + x": true, "x - 0": true, "x * 1": true, "1 * x": true, "x / 1": true, "x | 0": true, "0 | x": true, "x ^ 0": true, "0 ^ x": true}

// zeros are the operations with a constant that are 0.
var zeros = map[string]bool{"x * 0": true, "0 * x": true, "x & 0": true, "0 & x": true}

// All operators with each of some constants at either side.
func TestIdentities(t *testing.T) {
	for _, sign := range signs {
		for _, n := range []int{0, 1, -1, 2, least, greatest} {
			for _, left := range []bool{false, true} {
				rule, op := fmt.Sprintf("x %s %d", sign, n), fmt.Sprintf("v5 = v1 %s v2", sign)
				if left {
					rule, op = fmt.Sprintf("%d %s x", n, sign), fmt.Sprintf("v5 = v2 %s v1", sign)
				}
				known := fmt.Sprintf("v2 = %d; ", n)
				uses := "; print v5; bind 1 to v5 + 3; v6 = v5 - v0"
				switch {
				case identities[rule]:
					expectOps(t, "P8.2", known+op+uses, known+"v5 = copy v1; print v1; bind 1 to v1 + 3; v6 = v1 - v0")
				case zeros[rule]:
					expectOps(t, "P8.2", known+op+uses, known+"v5 = 0; print v5; bind 1 to constant + 3; v6 = v5 - v0")
				default:
					expectOps(t, "P8.2", known+op+uses, known+op+uses)
				}
			}
		}
	}
}

// The constant of an identity may be known in any way.
func TestComputedIdentities(t *testing.T) {
	for _, zero := range []string{"v2 = 0", "v3 = 0; v2 = copy v3", "v3 = 7; v2 = v3 - v3", "v3 = 0; v2 = v3 * v1", "v3 = 0; v2 = v1 & v3", "v3 = 5; v4 = 6; v2 = v3 == v4"} {
		want := map[string]string{
			"v2 = 0":                        "v2 = 0",
			"v3 = 0; v2 = copy v3":          "v3 = 0; v2 = 0",
			"v3 = 7; v2 = v3 - v3":          "v3 = 7; v2 = 0",
			"v3 = 0; v2 = v3 * v1":          "v3 = 0; v2 = 0",
			"v3 = 0; v2 = v1 & v3":          "v3 = 0; v2 = 0",
			"v3 = 5; v4 = 6; v2 = v3 == v4": "v3 = 5; v4 = 6; v2 = 0",
		}[zero]
		expectOps(t, "P8.2", zero+"; v6 = v1 + v2; v7 = v2 | v6; print v7", want+"; v6 = copy v1; v7 = copy v1; print v1")
		expectOps(t, "P8.2", zero+"; v6 = v1 & v2; v7 = v6 + v1; print v7", want+"; v6 = 0; v7 = copy v1; print v1")
	}
}

// The operands may be the same, and the rule that is named first decides.
func TestSeveralRules(t *testing.T) {
	for from, want := range map[string]string{
		"v2 = 0; v3 = v2 + v2":           "v2 = 0; v3 = 0",
		"v2 = 0; v3 = v2 * v2":           "v2 = 0; v3 = 0",
		"v2 = 0; v3 = v2 / v2":           "v2 = 0; v3 = v2 / v2",
		"v2 = 0; v3 = v2 % v2":           "v2 = 0; v3 = v2 % v2",
		"v2 = 1; v3 = v2 / v2":           "v2 = 1; v3 = 1",
		"v2 = 0; v3 = 1; v4 = v2 * v3":   "v2 = 0; v3 = 1; v4 = 0",
		"v2 = 0; v3 = 1; v4 = v3 * v2":   "v2 = 0; v3 = 1; v4 = 0",
		"v2 = 0; v3 = 1; v4 = v2 / v3":   "v2 = 0; v3 = 1; v4 = 0",
		"v2 = 0; v3 = 9; v4 = v2 ^ v3":   "v2 = 0; v3 = 9; v4 = 9",
		"v2 = 0; v3 = 9; v4 = v3 | v2":   "v2 = 0; v3 = 9; v4 = 9",
		"v2 = v0 - v0; v3 = v2 * v0":     "v2 = v0 - v0; v3 = v2 * v0",
		"v2 = v0 == v0; v3 = v0 ^ v0":    "v2 = v0 == v0; v3 = v0 ^ v0",
		"v2 = load 0 v0; v3 = v2 & v2":   "v2 = load 0 v0; v3 = v2 & v2",
		"v2 = 0; v3 = v2 / v0; print v3": "v2 = 0; v3 = v2 / v0; print v3",
	} {
		expectOps(t, "P8.2", from, want)
	}
}

func TestCopies(t *testing.T) {
	for from, want := range map[string]string{
		"v2 = copy v1; v3 = copy v2; v4 = copy v3; v5 = v4 + v2":                   "v2 = copy v1; v3 = copy v1; v4 = copy v1; v5 = v1 + v1",
		"v2 = 5; v3 = copy v2; v4 = copy v3; v5 = v4 + v3":                         "v2 = 5; v3 = 5; v4 = 5; v5 = 10",
		"v2 = 0; v3 = v1 + v2; v4 = copy v3; v5 = v4 ^ v2; v6 = v5 - v4":           "v2 = 0; v3 = copy v1; v4 = copy v1; v5 = copy v1; v6 = v1 - v1",
		"v2 = copy v0; v3 = v2 + v1; v4 = copy v3; v5 = v4 < v2":                   "v2 = copy v0; v3 = v0 + v1; v4 = copy v3; v5 = v3 < v0",
		"v2 = load 0 v1; v3 = copy v2; v4 = copy v3; print v4":                     "v2 = load 0 v1; v3 = copy v2; v4 = copy v2; print v2",
		"v9 = copy v0; v4 = copy v9; v6 = copy v1; v5 = copy v6; v7 = v4 - v5":     "v9 = copy v0; v4 = copy v0; v6 = copy v1; v5 = copy v1; v7 = v0 - v1",
		"v2 = 1; v3 = v2 * v1; v4 = copy v3; v5 = v4 / v2; v6 = v5 * v0; print v6": "v2 = 1; v3 = copy v1; v4 = copy v1; v5 = copy v1; v6 = v1 * v0; print v6",
	} {
		expectOps(t, "P8.2", from, want)
	}
}

// Each field that takes a representative takes it, and a constant takes no other value's place.
func TestReplacedOperands(t *testing.T) {
	copies := "v2 = copy v0; v3 = copy v1; "
	for from, want := range map[string]string{
		"v4 = copy v2":         "v4 = copy v0",
		"v4 = load 0 v2":       "v4 = load 0 v0",
		"store 0 v2 v3":        "store 0 v0 v1",
		"store 0 v3 v2":        "store 0 v1 v0",
		"print v3":             "print v1",
		"zero 0":               "zero 0",
		"mark 2 in 1; at 3":    "mark 2 in 1; at 3",
		"v4 = 2; v5 = v4 / v2": "v4 = 2; v5 = v4 / v0",
		"v4 = 2; v5 = v2 % v4": "v4 = 2; v5 = v0 % v4",
	} {
		expectOps(t, "P8.2", copies+from, copies+want)
	}
	for _, sign := range signs {
		expectOps(t, "P8.2", copies+"v4 = v2 "+sign+" v3; v5 = v3 "+sign+" v0", copies+"v4 = v0 "+sign+" v1; v5 = v1 "+sign+" v0")
	}
	known := "v2 = 2; v3 = 2; v4 = copy v3; "
	same := "v5 = load 0 v4; store 0 v4 v3; print v4; v6 = v4 / v1"
	expectOps(t, "P8.2", known+same, "v2 = 2; v3 = 2; v4 = 2; "+same)
}

// The fields that an operation does not use any more are 0; expectOps compares all of them.
func TestUnusedFields(t *testing.T) {
	c := passes.Parse(t, "(2) v2 = 3; v3 = v2 + v2; v4 = copy v2; v5 = 0; v6 = v1 - v5; v7 = v1 & v5; bind 3.2 to v3 + 4; branch v5 1(v1) 1(v0)\n(1) return v0")
	got := passes.Result(t, "P8.2", Fold, c).Blocks[0]
	want := []api.Op{
		{Kind: api.OpConst, Dst: 2, N: 3},
		{Kind: api.OpConst, Dst: 3, N: 6},
		{Kind: api.OpConst, Dst: 4, N: 3},
		{Kind: api.OpConst, Dst: 5},
		{Kind: api.OpCopy, Dst: 6, A: 1},
		{Kind: api.OpConst, Dst: 7},
		{Kind: api.OpBind, Var: 3, Piece: 2, Src: api.Src{Kind: api.SrcConstant, Add: 10}},
	}
	if !slices.Equal(got.Ops, want) {
		t.Errorf("P8.2: the operations are %+v", got.Ops)
	}
	end := api.Term{Kind: api.TermJump, To: [2]api.Edge{{Block: 1, Args: []int{0}}, {Block: -1}}}
	if fmt.Sprint(got.Term) != fmt.Sprint(end) {
		t.Errorf("P8.2: the terminator is %+v", got.Term)
	}
}
