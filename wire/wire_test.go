package wire

import (
	"bytes"
	"math/big"
	"slices"
	"strings"
	"testing"

	"debugger/api"
)

const (
	greatest = 1<<63 - 1
	least    = -1 << 63
)

// row is a number and its bytes, written out by hand.
type row struct {
	v int
	b []byte
}

func uintRows() []row {
	return []row{
		{0, []byte{0}},
		{1, []byte{1}},
		{127, []byte{127}},
		{128, []byte{128, 1}},
		{300, []byte{172, 2}},
		{16383, []byte{255, 127}},
		{16384, []byte{128, 128, 1}},
		{1 << 56, []byte{128, 128, 128, 128, 128, 128, 128, 128, 1}},
		{1<<56 - 1, []byte{255, 255, 255, 255, 255, 255, 255, 127}},
		{greatest, []byte{255, 255, 255, 255, 255, 255, 255, 255, 127}},
	}
}

func intRows() []row {
	return []row{
		{0, []byte{0}},
		{-1, []byte{1}},
		{1, []byte{2}},
		{-3, []byte{5}},
		{63, []byte{126}},
		{-64, []byte{127}},
		{64, []byte{128, 1}},
		{-65, []byte{129, 1}},
		{1<<62 - 1, []byte{254, 255, 255, 255, 255, 255, 255, 255, 127}},
		{-1 << 62, []byte{255, 255, 255, 255, 255, 255, 255, 255, 127}},
		{1 << 62, []byte{128, 128, 128, 128, 128, 128, 128, 128, 128, 1}},
		{-1<<62 - 1, []byte{129, 128, 128, 128, 128, 128, 128, 128, 128, 1}},
		{greatest, []byte{254, 255, 255, 255, 255, 255, 255, 255, 255, 1}},
		{least, []byte{255, 255, 255, 255, 255, 255, 255, 255, 255, 1}},
	}
}

// samples returns numbers around every power of two, positive and negative.
func samples() []int {
	l := []int{0, greatest, least}
	for i := range 63 {
		p := 1 << i
		l = append(l, p, p-1, p+1, -p, -p-1, -p+1)
	}
	return l
}

// groups returns the groups of 7 bits of a number, by another way than the package.
func groups(n *big.Int) []byte {
	b := []byte{}
	for rest := new(big.Int).Set(n); ; {
		digit := new(big.Int)
		rest.DivMod(rest, big.NewInt(128), digit)
		c := byte(digit.Int64())
		if rest.Sign() == 0 {
			return append(b, c)
		}
		b = append(b, c+128)
	}
}

func ones(n int, last ...byte) []byte {
	return append(bytes.Repeat([]byte{255}, n), last...)
}

func TestUintRows(t *testing.T) {
	for _, r := range uintRows() {
		b := AppendUint([]byte{9, 8}, r.v)
		if want := append([]byte{9, 8}, r.b...); !bytes.Equal(b, want) {
			t.Errorf("P1.1: AppendUint of %d = %v, not %v", r.v, b, want)
		}
		v, next, e := Uint(slices.Concat([]byte{9, 8}, r.b, []byte{200}), 2)
		if v != r.v || next != 2+len(r.b) || e != api.OK {
			t.Errorf("P1.3: Uint of %v = %d, %d, %d", r.b, v, next, e)
		}
	}
}

func TestIntRows(t *testing.T) {
	for _, r := range intRows() {
		b := AppendInt([]byte{9, 8}, r.v)
		if want := append([]byte{9, 8}, r.b...); !bytes.Equal(b, want) {
			t.Errorf("P1.1: AppendInt of %d = %v, not %v", r.v, b, want)
		}
		v, next, e := Int(slices.Concat([]byte{9, 8}, r.b, []byte{200}), 2)
		if v != r.v || next != 2+len(r.b) || e != api.OK {
			t.Errorf("P1.3: Int of %v = %d, %d, %d", r.b, v, next, e)
		}
	}
}

func TestUintOfManyNumbers(t *testing.T) {
	for _, v := range samples() {
		if v < 0 {
			continue
		}
		b := AppendUint(nil, v)
		if !bytes.Equal(b, groups(big.NewInt(int64(v)))) {
			t.Errorf("P1.1: AppendUint of %d = %v", v, b)
		}
		if n, next, e := Uint(b, 0); n != v || next != len(b) || e != api.OK {
			t.Errorf("P1.3: Uint of %v = %d, %d, %d", b, n, next, e)
		}
	}
}

func TestIntOfManyNumbers(t *testing.T) {
	for _, v := range samples() {
		n := new(big.Int).Mul(big.NewInt(int64(v)), big.NewInt(2))
		if v < 0 {
			n.Neg(n).Sub(n, big.NewInt(1))
		}
		b := AppendInt(nil, v)
		if !bytes.Equal(b, groups(n)) {
			t.Errorf("P1.1: AppendInt of %d = %v", v, b)
		}
		if m, next, e := Int(b, 0); m != v || next != len(b) || e != api.OK {
			t.Errorf("P1.3: Int of %v = %d, %d, %d", b, m, next, e)
		}
	}
}

func TestAppendUintBelowZero(t *testing.T) {
	for _, v := range []int{-1, -300, least} {
		for _, b := range [][]byte{nil, {}, {9}, {1, 2, 3}} {
			if r := AppendUint(b, v); !bytes.Equal(r, b) {
				t.Errorf("P1.2: AppendUint(%v, %d) = %v", b, v, r)
			}
		}
	}
}

func TestText(t *testing.T) {
	for _, c := range []struct {
		s     string
		count []byte
	}{
		{"", []byte{0}},
		{"ab", []byte{2}},
		{"a\x00\xff\n", []byte{4}},
		{"größe", []byte{7}},
		{strings.Repeat("x", 127), []byte{127}},
		{strings.Repeat("y", 128), []byte{128, 1}},
		{strings.Repeat("z", 16384), []byte{128, 128, 1}},
	} {
		want := slices.Concat([]byte{7}, c.count, []byte(c.s))
		if b := AppendText([]byte{7}, c.s); !bytes.Equal(b, want) {
			t.Errorf("P1.1: AppendText of %.10q = %v", c.s, b)
		}
		s, next, e := Text(append(slices.Clone(want), 5), 1)
		if s != c.s || next != len(want) || e != api.OK {
			t.Errorf("P1.4: Text of %.10q = %.10q, %d, %d", c.s, s, next, e)
		}
	}
}

// refusal is bytes that are neither a uint nor an int at a place, and the errors of the two.
type refusal struct {
	b      []byte
	at     int
	ue, ie api.Errno
}

func refusals() []refusal {
	const arg, short, form, rng = api.ErrArg, api.ErrTruncated, api.ErrForm, api.ErrRange
	return []refusal{
		{nil, -1, arg, arg},
		{nil, 0, short, short},
		{nil, 1, arg, arg},
		{[]byte{1, 2}, -1, arg, arg},
		{[]byte{1, 2}, least, arg, arg},
		{[]byte{1, 2}, 2, short, short},
		{[]byte{1, 2}, 3, arg, arg},
		{[]byte{1, 2}, greatest, arg, arg},
		{[]byte{128}, 0, short, short},
		{[]byte{5, 255}, 1, short, short},
		{[]byte{128, 0}, 0, form, form},
		{[]byte{5, 129, 128, 0, 7}, 1, form, form},
		{ones(8), 0, short, short},
		{ones(8, 0), 0, form, form},
		{ones(8, 128), 0, rng, short},
		{ones(8, 128, 0), 0, rng, form},
		{ones(8, 128, 2), 0, rng, rng},
		{ones(9), 0, rng, short},
		{ones(9, 0), 0, rng, form},
		{ones(9, 2), 0, rng, rng},
		{ones(9, 127), 0, rng, rng},
		{ones(9, 128), 0, rng, rng},
		{ones(10), 0, rng, rng},
		{ones(30), 0, rng, rng},
	}
}

func TestNumberErrors(t *testing.T) {
	for _, c := range refusals() {
		if v, next, e := Uint(c.b, c.at); v != 0 || next != 0 || e != c.ue {
			t.Errorf("P1.3: Uint(%v, %d) = %d, %d, %d, not %d", c.b, c.at, v, next, e, c.ue)
		}
		if v, next, e := Int(c.b, c.at); v != 0 || next != 0 || e != c.ie {
			t.Errorf("P1.3: Int(%v, %d) = %d, %d, %d, not %d", c.b, c.at, v, next, e, c.ie)
		}
	}
}

func TestTextErrors(t *testing.T) {
	list := []refusal{
		{b: []byte{1}, ue: api.ErrTruncated},
		{b: []byte{3, 97, 98}, ue: api.ErrTruncated},
		{b: []byte{97, 2, 98}, at: 1, ue: api.ErrTruncated},
		{b: []byte{128, 1, 97}, ue: api.ErrTruncated},
		{b: ones(8, 127), ue: api.ErrTruncated},
		{b: ones(8, 127, 97), ue: api.ErrTruncated},
	}
	for _, c := range append(list, refusals()...) {
		if s, next, e := Text(c.b, c.at); s != "" || next != 0 || e != c.ue {
			t.Errorf("P1.4: Text(%v, %d) = %q, %d, %d, not %d", c.b, c.at, s, next, e, c.ue)
		}
	}
}

func TestEmptyTextAtTheEnd(t *testing.T) {
	if s, next, e := Text([]byte{97, 0}, 1); s != "" || next != 2 || e != api.OK {
		t.Errorf("P1.4: Text of an empty one = %q, %d, %d", s, next, e)
	}
}

// Whatever is read is what would have been written.
func TestOneFormOfEachNumber(t *testing.T) {
	digits := []byte{0, 1, 2, 126, 127, 128, 129, 255}
	for _, first := range []int{0, 5, 6, 7} {
		for code := range 8 * 8 * 8 * 8 {
			b := ones(first, digits[code&7], digits[code>>3&7], digits[code>>6&7], digits[code>>9&7])
			if v, next, e := Uint(b, 0); e == api.OK && !bytes.Equal(AppendUint(nil, v), b[:next]) {
				t.Errorf("P1.1: Uint of %v = %d, %d", b, v, next)
			}
			if v, next, e := Int(b, 0); e == api.OK && !bytes.Equal(AppendInt(nil, v), b[:next]) {
				t.Errorf("P1.1: Int of %v = %d, %d", b, v, next)
			}
		}
	}
}

// appends are the calls that put something behind bytes.
func appends() map[string]func([]byte) []byte {
	return map[string]func([]byte) []byte{
		"AppendUint":      func(b []byte) []byte { return AppendUint(b, 300) },
		"AppendUint (-1)": func(b []byte) []byte { return AppendUint(b, -1) },
		"AppendInt":       func(b []byte) []byte { return AppendInt(b, -300) },
		"AppendText":      func(b []byte) []byte { return AppendText(b, "ab") },
		"AppendText (0)":  func(b []byte) []byte { return AppendText(b, "") },
	}
}

func TestSpareCapacityIsKept(t *testing.T) {
	for name, call := range appends() {
		for _, size := range []int{0, 1, 3} {
			whole := bytes.Repeat([]byte{77}, 32)
			call(whole[:size])
			if !bytes.Equal(whole, bytes.Repeat([]byte{77}, 32)) {
				t.Errorf("P1.2: %s has written into its argument: %v", name, whole)
			}
		}
	}
}

func TestResultsAreNewMemory(t *testing.T) {
	for name, call := range appends() {
		for _, size := range []int{0, 1, 3} {
			whole := bytes.Repeat([]byte{77}, 32)
			r := call(whole[:size])
			want := slices.Clone(r)
			clear(whole)
			if !bytes.Equal(r, want) {
				t.Errorf("P1.2: the result of %s shares memory with its argument", name)
			}
		}
	}
}

// Two results from one slice with spare capacity do not share it.
func TestResultsDoNotMeet(t *testing.T) {
	b := make([]byte, 1, 32)
	one, two, text, same := AppendUint(b, 1), AppendInt(b, 1), AppendText(b, "z"), AppendUint(b, -1)
	three := AppendUint(one, 3)
	four := AppendUint(one, 4)
	for _, c := range []struct{ got, want []byte }{
		{one, []byte{0, 1}}, {two, []byte{0, 2}}, {text, []byte{0, 1, 'z'}}, {same, []byte{0}}, {three, []byte{0, 1, 3}}, {four, []byte{0, 1, 4}},
	} {
		if !bytes.Equal(c.got, c.want) {
			t.Errorf("P1.2: a result is %v, not %v", c.got, c.want)
		}
	}
}

func TestTextIsNewMemory(t *testing.T) {
	b := []byte{2, 'a', 'b'}
	s, _, _ := Text(b, 0)
	b[1] = 'x'
	if s != "ab" {
		t.Errorf("P1.4: the text has become %q", s)
	}
}

func TestReadingChangesNothing(t *testing.T) {
	b := []byte{172, 2, 5, 2, 'a', 'b'}
	Uint(b, 0)
	Int(b, 2)
	Text(b, 3)
	if !bytes.Equal(b, []byte{172, 2, 5, 2, 'a', 'b'}) {
		t.Errorf("P1.3: the bytes have become %v", b)
	}
}
