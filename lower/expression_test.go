package lower

import (
	"fmt"
	"strings"
	"testing"
)

// The example of the chapter.
func TestExample(t *testing.T) {
	expectCode(t, "P7", "func f(a) { return a + 1; }", "(1) bind 0 to v0; mark 0; v1 = 1; v2 = v0 + v1; return v2")
}

func TestExpressions(t *testing.T) {
	for expression, want := range map[string]string{
		"7":                              "v2 = 7; return v2",
		"0":                              "v2 = 0; return v2",
		"999999999999999999":             "v2 = 999999999999999999; return v2",
		"a":                              "return v0",
		"b":                              "return v1",
		"(b)":                            "return v1",
		"-a":                             "v2 = 0; v3 = v2 - v0; return v3",
		"-5":                             "v2 = 0; v3 = 5; v4 = v2 - v3; return v4",
		"--a":                            "v2 = 0; v3 = 0; v4 = v3 - v0; v5 = v2 - v4; return v5",
		"!a":                             "v2 = 0; v3 = v0 == v2; return v3",
		"!5":                             "v2 = 5; v3 = 0; v4 = v2 == v3; return v4",
		"!!a":                            "v2 = 0; v3 = v0 == v2; v4 = 0; v5 = v3 == v4; return v5",
		"-!a":                            "v2 = 0; v3 = 0; v4 = v0 == v3; v5 = v2 - v4; return v5",
		"!-a":                            "v2 = 0; v3 = v2 - v0; v4 = 0; v5 = v3 == v4; return v5",
		"a + a":                          "v2 = v0 + v0; return v2",
		"a - b - 1":                      "v2 = v0 - v1; v3 = 1; v4 = v2 - v3; return v4",
		"a - (b - 1)":                    "v2 = 1; v3 = v1 - v2; v4 = v0 - v3; return v4",
		"b * 2 - a * 3":                  "v2 = 2; v3 = v1 * v2; v4 = 3; v5 = v0 * v4; v6 = v3 - v5; return v6",
		"1 < (2 | (3 + (4 * (5 - a))))":  "v2 = 1; v3 = 2; v4 = 3; v5 = 4; v6 = 5; v7 = v6 - v0; v8 = v5 * v7; v9 = v4 + v8; v10 = v3 | v9; v11 = v2 < v10; return v11",
		"((((a * 5) + 4) & 3) - 2) <= b": "v2 = 5; v3 = v0 * v2; v4 = 4; v5 = v3 + v4; v6 = 3; v7 = v5 & v6; v8 = 2; v9 = v7 - v8; v10 = v9 <= v1; return v10",
	} {
		expectCode(t, "P7.3", "func f(a, b) { return "+expression+"; }", "(2) bind 0 to v0; bind 1 to v1; mark 0; "+want)
	}
}

func TestOperators(t *testing.T) {
	for _, sign := range strings.Fields("+ - * & | ^ < <= == !=") {
		expectCode(t, "P7.3", "func f(a, b) { return b "+sign+" a; }", "(2) bind 0 to v0; bind 1 to v1; mark 0; v2 = v1 "+sign+" v0; return v2")
	}
	for _, sign := range []string{"/", "%"} {
		expectCode(t, "P7.3", "func f(a, b) { return b "+sign+" a; }",
			"(2) bind 0 to v0; bind 1 to v1; mark 0; branch v0 1(v0 v1 v1 v0) 2(v0 v1)",
			"(4) bind 0 to v0; bind 1 to v1; at 0; v4 = v2 "+sign+" v3; return v4",
			"(2) bind 0 to v0; bind 1 to v1; at 0; v2 = 1; throw v2")
	}
}

// The value of a piece is the one that it was bound to last, and nothing is written for it.
func TestPieces(t *testing.T) {
	expectCode(t, "P7.3", "record R { p, q } func f(a) { var r: R; r.q = 5; print r.q; print r.p - r.q; a = 6; return a; }",
		"(1) bind 0 to v0; mark 0; v1 = 0; bind 1 to v1; v2 = 0; bind 1.1 to v2; mark 1; v3 = 5; bind 1.1 to v3; mark 2; print v3; mark 3; v4 = v1 - v3; print v4; mark 4; v5 = 6; bind 0 to v5; mark 5; return v5")
}

// Behind each division the pieces have new values, and so have the pending values.
func TestDivisions(t *testing.T) {
	const throws = "(1) bind 0 to v0; at 0; v1 = 1; throw v1"
	for _, c := range []struct {
		expression string
		want       []string
	}{
		{"a / a", []string{
			"branch v0 1(v0 v0 v0) 2(v0)",
			"(3) bind 0 to v0; at 0; v3 = v1 / v2; return v3",
			throws}},
		{"5 / 7", []string{
			"v1 = 5; v2 = 7; branch v2 1(v0 v1 v2) 2(v0)",
			"(3) bind 0 to v0; at 0; v3 = v1 / v2; return v3",
			throws}},
		{"4 - a % 7", []string{
			"v1 = 4; v2 = 7; branch v2 1(v0 v1 v0 v2) 2(v0)",
			"(4) bind 0 to v0; at 0; v4 = v2 % v3; v5 = v1 - v4; return v5",
			throws}},
		{"a % 7 - 4", []string{
			"v1 = 7; branch v1 1(v0 v0 v1) 2(v0)",
			"(3) bind 0 to v0; at 0; v3 = v1 % v2; v4 = 4; v5 = v3 - v4; return v5",
			throws}},
		{"a * 2 - 9 / a * a", []string{
			"v1 = 2; v2 = v0 * v1; v3 = 9; branch v0 1(v0 v2 v3 v0) 2(v0)",
			"(4) bind 0 to v0; at 0; v4 = v2 / v3; v5 = v4 * v0; v6 = v1 - v5; return v6",
			throws}},
		{"8 / a / 2", []string{
			"v1 = 8; branch v0 1(v0 v1 v0) 2(v0)",
			"(3) bind 0 to v0; at 0; v3 = v1 / v2; v4 = 2; branch v4 3(v0 v3 v4) 4(v0)",
			throws,
			"(3) bind 0 to v0; at 0; v3 = v1 / v2; return v3",
			throws}},
		{"8 / (a % 2)", []string{
			"v1 = 8; v2 = 2; branch v2 1(v0 v1 v0 v2) 2(v0)",
			"(4) bind 0 to v0; at 0; v4 = v2 % v3; branch v4 3(v0 v1 v4) 4(v0)",
			throws,
			"(3) bind 0 to v0; at 0; v3 = v1 / v2; return v3",
			throws}},
		{"8 / a - 7 % a", []string{
			"v1 = 8; branch v0 1(v0 v1 v0) 2(v0)",
			"(3) bind 0 to v0; at 0; v3 = v1 / v2; v4 = 7; branch v0 3(v0 v3 v4 v0) 4(v0)",
			throws,
			"(4) bind 0 to v0; at 0; v4 = v2 % v3; v5 = v1 - v4; return v5",
			throws}},
		{"1 < (2 | (3 + (4 * (5 / a))))", []string{
			"v1 = 1; v2 = 2; v3 = 3; v4 = 4; v5 = 5; branch v0 1(v0 v1 v2 v3 v4 v5 v0) 2(v0)",
			"(7) bind 0 to v0; at 0; v7 = v5 / v6; v8 = v4 * v7; v9 = v3 + v8; v10 = v2 | v9; v11 = v1 < v10; return v11",
			throws}},
		// The 0 of a negation is pending while its operand is evaluated.
		{"-(a / 3)", []string{
			"v1 = 0; v2 = 3; branch v2 1(v0 v1 v0 v2) 2(v0)",
			"(4) bind 0 to v0; at 0; v4 = v2 / v3; v5 = v1 - v4; return v5",
			throws}},
		{"!(a / 3)", []string{
			"v1 = 3; branch v1 1(v0 v0 v1) 2(v0)",
			"(3) bind 0 to v0; at 0; v3 = v1 / v2; v4 = 0; v5 = v3 == v4; return v5",
			throws}},
		{"-a / -3", []string{
			"v1 = 0; v2 = v1 - v0; v3 = 0; v4 = 3; v5 = v3 - v4; branch v5 1(v0 v2 v5) 2(v0)",
			"(3) bind 0 to v0; at 0; v3 = v1 / v2; return v3",
			throws}},
	} {
		c.want[0] = "(1) bind 0 to v0; mark 0; " + c.want[0]
		expectCode(t, "P7.3", "func f(a) { return "+c.expression+"; }", c.want...)
	}
}

func TestElements(t *testing.T) {
	const throws = "(1) bind 0 to v0; at 2; v1 = 2; throw v1"
	for _, c := range []struct {
		expression string
		want       []string
	}{
		{"m[a]", []string{
			"v1 = 0; v2 = v0 < v1; v3 = 7; v4 = v3 <= v0; v5 = v2 | v4; branch v5 1(v0) 2(v0 v0)",
			throws,
			"(2) bind 0 to v0; at 2; v2 = load 1 v1; return v2"}},
		{"l[1]", []string{
			"v1 = 1; v2 = 0; v3 = v1 < v2; v4 = 2; v5 = v4 <= v1; v6 = v3 | v5; branch v6 1(v0) 2(v0 v1)",
			throws,
			"(2) bind 0 to v0; at 2; v2 = load 0 v1; return v2"}},
		{"l[a - 1] * 3", []string{
			"v1 = 1; v2 = v0 - v1; v3 = 0; v4 = v2 < v3; v5 = 2; v6 = v5 <= v2; v7 = v4 | v6; branch v7 1(v0) 2(v0 v2)",
			throws,
			"(2) bind 0 to v0; at 2; v2 = load 0 v1; v3 = 3; v4 = v2 * v3; return v4"}},
		{"3 * l[a]", []string{
			"v1 = 3; v2 = 0; v3 = v0 < v2; v4 = 2; v5 = v4 <= v0; v6 = v3 | v5; branch v6 1(v0) 2(v0 v1 v0)",
			throws,
			"(3) bind 0 to v0; at 2; v3 = load 0 v2; v4 = v1 * v3; return v4"}},
		{"-l[a]", []string{
			"v1 = 0; v2 = 0; v3 = v0 < v2; v4 = 2; v5 = v4 <= v0; v6 = v3 | v5; branch v6 1(v0) 2(v0 v1 v0)",
			throws,
			"(3) bind 0 to v0; at 2; v3 = load 0 v2; v4 = v1 - v3; return v4"}},
		{"l[m[a]]", []string{
			"v1 = 0; v2 = v0 < v1; v3 = 7; v4 = v3 <= v0; v5 = v2 | v4; branch v5 1(v0) 2(v0 v0)",
			throws,
			"(2) bind 0 to v0; at 2; v2 = load 1 v1; v3 = 0; v4 = v2 < v3; v5 = 2; v6 = v5 <= v2; v7 = v4 | v6; branch v7 3(v0) 4(v0 v2)",
			throws,
			"(2) bind 0 to v0; at 2; v2 = load 0 v1; return v2"}},
		{"l[a] - m[a]", []string{
			"v1 = 0; v2 = v0 < v1; v3 = 2; v4 = v3 <= v0; v5 = v2 | v4; branch v5 1(v0) 2(v0 v0)",
			throws,
			"(2) bind 0 to v0; at 2; v2 = load 0 v1; v3 = 0; v4 = v0 < v3; v5 = 7; v6 = v5 <= v0; v7 = v4 | v6; branch v7 3(v0) 4(v0 v2 v0)",
			throws,
			"(3) bind 0 to v0; at 2; v3 = load 1 v2; v4 = v1 - v3; return v4"}},
		// The throwing block is the first one of a range check, and the second one of a division.
		{"4 - l[5 / a]", []string{
			"v1 = 4; v2 = 5; branch v0 1(v0 v1 v2 v0) 2(v0)",
			"(4) bind 0 to v0; at 2; v4 = v2 / v3; v5 = 0; v6 = v4 < v5; v7 = 2; v8 = v7 <= v4; v9 = v6 | v8; branch v9 3(v0) 4(v0 v1 v4)",
			"(1) bind 0 to v0; at 2; v1 = 1; throw v1",
			throws,
			"(3) bind 0 to v0; at 2; v3 = load 0 v2; v4 = v1 - v3; return v4"}},
		{"m[a] % l[a]", []string{
			"v1 = 0; v2 = v0 < v1; v3 = 7; v4 = v3 <= v0; v5 = v2 | v4; branch v5 1(v0) 2(v0 v0)",
			throws,
			"(2) bind 0 to v0; at 2; v2 = load 1 v1; v3 = 0; v4 = v0 < v3; v5 = 2; v6 = v5 <= v0; v7 = v4 | v6; branch v7 3(v0) 4(v0 v2 v0)",
			throws,
			"(3) bind 0 to v0; at 2; v3 = load 0 v2; branch v3 5(v0 v1 v3) 6(v0)",
			"(3) bind 0 to v0; at 2; v3 = v1 % v2; return v3",
			"(1) bind 0 to v0; at 2; v1 = 1; throw v1"}},
	} {
		c.want[0] = "(1) bind 0 to v0; mark 0; zero 0; mark 1; zero 1; mark 2; " + c.want[0]
		expectCode(t, "P7.3", "func f(a) { var l: int[2]; var m: int[7]; return "+c.expression+"; }", append([]string{"object 0 1 2", "object 0 2 7"}, c.want...)...)
	}
}

// The length of the range check is that of the array.
func TestLengths(t *testing.T) {
	for length := 1; length <= 8; length++ {
		expectCode(t, "P7.3", fmt.Sprintf("func f(a) { var l: int[%d]; return l[a]; }", length),
			fmt.Sprintf("object 0 1 %d", length),
			fmt.Sprintf("(1) bind 0 to v0; mark 0; zero 0; mark 1; v1 = 0; v2 = v0 < v1; v3 = %d; v4 = v3 <= v0; v5 = v2 | v4; branch v5 1(v0) 2(v0 v0)", length),
			"(1) bind 0 to v0; at 1; v1 = 2; throw v1",
			"(2) bind 0 to v0; at 1; v2 = load 0 v1; return v2")
	}
}

// All pending values of a call's arguments are taken along, ahead of those of the argument itself, and all pieces, ordered by variable and piece, ahead of them.
func TestPendingArguments(t *testing.T) {
	expectCode(t, "P7.3", "record R { p, q, s } func f(a) { var r: R; var b: int; g(b, 3, r.q - a / r.s, r.p); } func g(w, x, y, z) { }",
		"(1) bind 0 to v0; mark 0; v1 = 0; bind 1 to v1; v2 = 0; bind 1.1 to v2; v3 = 0; bind 1.2 to v3; mark 1; v4 = 0; bind 2 to v4; mark 2; v5 = 3; branch v3 1(v0 v1 v2 v3 v4 v4 v5 v2 v0 v3) 2(v0 v1 v2 v3 v4)",
		"(10) bind 0 to v0; bind 1 to v1; bind 1.1 to v2; bind 1.2 to v3; bind 2 to v4; at 2; v10 = v8 / v9; v11 = v7 - v10; call 1(v5 v6 v11 v1) 3(v0 v1 v2 v3 v4)",
		"(5) bind 0 to v0; bind 1 to v1; bind 1.1 to v2; bind 1.2 to v3; bind 2 to v4; at 2; v5 = 1; throw v5",
		"(6) bind 0 to v1; bind 1 to v2; bind 1.1 to v3; bind 1.2 to v4; bind 2 to v5; at 2; mark 3; v6 = 0; return v6")
}
