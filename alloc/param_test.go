package alloc

import "testing"

// The first eight parameters of each block are in registers, the others in slots, wherever they are used.
func TestParameters(t *testing.T) {
	text := lines(
		"(4) branch v3 1("+zeros(7)+") 2("+zeros(8)+")",
		"(7) jump 3("+zeros(9)+")",
		"(8) print v7; jump 4("+zeros(13)+")",
		"(9) jump 5()",
		"(13) print v12; print v8; return v9",
		"(0) jump 5()",
	)
	registers := "r1 r2 r3 r4 r5 r6 r7 r8"
	expectBoth(t, "P15.1", text, "r1 r2 r3 r4", "r1 r2 r3 r4 r5 r6 r7", registers, registers+" s0", registers+" s0 s1 s2 s3 s4", "")
	expectFrame(t, "P15.1", text, frame{5, 0, nil, 5})
}

// The block with the most parameters decides how many slots they have, wherever it stands.
func TestParameterSlots(t *testing.T) {
	for _, counts := range [][]int{{8, 8}, {9, 0}, {0, 10}, {11, 12}, {12, 11}, {999, 998}} {
		text := "(1) branch v0 1(" + zeros(counts[0]) + ") 2(" + zeros(counts[1]) + ")"
		for _, n := range counts {
			text += "\n" + number("(", n) + ") v1000 = 1; return v1000"
		}
		most := max(counts[0], counts[1]) - 8
		expectFrame(t, "P15.1", text, frame{most, 0, nil, most})
	}
}

// A code without a block of more than eight parameters has no slots for them, not fewer than none.
func TestNoParameterSlots(t *testing.T) {
	text := "(0) " + constants(0, 14) + prints(0, 14) + "return v0"
	expectFrame(t, "P15.1", text, frame{2, 0, nil, 2})
}
