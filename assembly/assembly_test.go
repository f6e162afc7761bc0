package assembly

import (
	"slices"
	"testing"
)

func TestWords(t *testing.T) {
	for _, c := range []struct {
		text string
		want []int
	}{
		{"", nil},
		{" ;\n; ", nil},
		{"nop", []int{1}},
		{"break", []int{2}},
		{"const r0 7", []int{3 + 7<<32}},
		{"const r15 -1", []int{3 + 15<<8 - 1<<32}},
		{"pool r1 2147483647", []int{4 + 1<<8 + 2147483647<<32}},
		{"move r1 r2", []int{5 + 1*256 + 2*65536}},
		{"add r1 r2 r3; sub r1 r2 r3; mul r1 r2 r3", []int{0x03020106, 0x03020107, 0x03020108}},
		{"div r1 r2 r3; mod r1 r2 r3; and r1 r2 r3", []int{0x03020109, 0x0302010a, 0x0302010b}},
		{"or r1 r2 r3; xor r1 r2 r3; less r1 r2 r3", []int{0x0302010c, 0x0302010d, 0x0302010e}},
		{"lesseq r1 r2 r3; equal r1 r2 r3; notequal r1 r2 r15", []int{0x0302010f, 0x03020110, 0x0f020111}},
		{"addimm r14 r14 -2147483648", []int{0x0e0e12 - 1<<63}},
		{"load r3 r14 -2\nstore r4 r5 6", []int{0x0e0313 - 2<<32, 0x050414 + 6<<32}},
		{"jump 9; zero r2 8; call 7", []int{21 + 9<<32, 22 + 2<<8 + 8<<32, 23 + 7<<32}},
		{"return; print r9", []int{24, 25 + 9<<8}},
		{"word -12; word 0", []int{-12, 0}},
	} {
		if got, ok := Words(c.text); !ok || !slices.Equal(got, c.want) {
			t.Errorf("the words of %q are %v and %t, not %v", c.text, got, ok, c.want)
		}
	}
}

func TestRefused(t *testing.T) {
	for _, text := range []string{"no", "nop r1", "const r0", "const 0 7", "const r16 7", "const r-1 7", "const r0 2147483648", "const r0 r1", "move r1 2", "jump", "jump x", "word", "word x", "word 1 2", "nop; x", "Nop", "add r1 r2"} {
		if got, ok := Words(text); ok || got != nil {
			t.Errorf("the words of %q are %v and %t", text, got, ok)
		}
	}
}
