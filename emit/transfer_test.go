package emit

import (
	"strconv"
	"strings"
	"testing"
)

// moved returns a function whose block 1 has the parameters 0 to 7 in R1 to R8 and 8 to 11 in the slots 0 to 3, and jumps to block 2 with the same parameters: each argument is the parameter with its number, but for those that are given as in "0=1 8=3". The code of block 1 begins at movedAt.
func moved(t *testing.T, given string) string {
	t.Helper()
	args := [12]int{}
	for i := range args {
		args[i] = i
	}
	for _, x := range strings.Fields(given) {
		to, from, _ := strings.Cut(x, "=")
		i, err := strconv.Atoi(to)
		v, wrong := strconv.Atoi(from)
		if err != nil || wrong != nil {
			t.Fatalf("%q is no argument", x)
		}
		args[i] = v
	}
	list := ""
	for _, v := range args {
		list += number("v", v) + " "
	}
	return lines("(1) jump 1("+arguments(0, 12)+")", "(12) jump 2("+list+")", "(12) return v0")
}

const movedAt = 13

// expectMoves checks the parallel moves for some arguments.
func expectMoves(t *testing.T, given, want string) {
	t.Helper()
	for _, keep := range []bool{false, true} {
		u := emitted(t, keep, moved(t, given))
		if want != "" {
			expectWords(t, "P17.2, "+given, u, movedAt, want+"; jump "+strconv.Itoa(u.Code-4))
		}
		count := 0
		if want != "" {
			count = strings.Count(want, ";") + 1
		}
		if u.Code != movedAt+count+1+4 {
			t.Errorf("P17.2: %s has other moves: %s", given, shown(u.Words))
		}
	}
}

func TestConstants(t *testing.T) {
	for _, c := range []struct {
		n    string
		code string
		pool string
	}{
		{"0", "const r2 0", ""},
		{"2147483647", "const r2 2147483647", ""},
		{"-2147483648", "const r2 -2147483648", ""},
		{"2147483648", "pool r2 4", "word 2147483648"},
		{"-2147483649", "pool r2 4", "word -2147483649"},
		{"4294967296", "pool r2 4", "word 4294967296"},
		{"9223372036854775807", "pool r2 4", "word 9223372036854775807"},
		{"-9223372036854775808", "pool r2 4", "word -9223372036854775808"},
	} {
		for _, keep := range []bool{false, true} {
			expectCode(t, "P17.2", keep, c.code+"; move r0 r1; const r13 0; return", c.pool, "(1) v1 = "+c.n+"; return v0")
		}
	}
}

// A constant of the pool that lies in a slot goes through R15.
func TestPoolToSlot(t *testing.T) {
	u := emitted(t, false, crowded("v15 = 2147483648; v16 = 2147483647", 16))
	expectWords(t, "P17.2", u, crowdedOps, number("pool r15 ", u.Code)+"; store r15 r14 3; const r15 2147483647; store r15 r14 4")
	expectWords(t, "P17.2", u, u.Code, "word 2147483648")
}

// place returns where a parameter of moved lies: a register or a slot.
func place(v int) (n int, inSlot bool) {
	if v < 8 {
		return 1 + v, false
	}
	return v - 8, true
}

// pair returns the instructions of a transfer between two parameters.
func pair(to, from int) string {
	a, slotA := place(to)
	b, slotB := place(from)
	switch {
	case a == b && slotA == slotB:
		return ""
	case slotA && slotB:
		return number("load r15 r14 ", b) + number("; store r15 r14 ", a)
	case slotA:
		return number("store r", b) + number(" r14 ", a)
	case slotB:
		return number("load r", a) + number(" r14 ", b)
	}
	return number("move r", a) + number(" r", b)
}

// All pairs of places.
func TestTransfers(t *testing.T) {
	for to := range 12 {
		for from := range 12 {
			expectMoves(t, number("", to)+number("=", from), pair(to, from))
		}
	}
	expectMoves(t, "0=1", "move r1 r2")
	expectMoves(t, "8=2", "store r3 r14 0")
	expectMoves(t, "3=10", "load r4 r14 2")
	expectMoves(t, "8=9", "load r15 r14 1; store r15 r14 0")
	expectMoves(t, "", "")
}

func TestChains(t *testing.T) {
	expectMoves(t, "0=1 1=2 2=3", "move r1 r2; move r2 r3; move r3 r4")
	expectMoves(t, "1=0 2=1 3=2", "move r4 r3; move r3 r2; move r2 r1")
	expectMoves(t, "1=0 2=1 5=4 6=5", "move r3 r2; move r2 r1; move r7 r6; move r6 r5")
	expectMoves(t, "0=7 7=8 8=9 9=10", "move r1 r8; load r8 r14 0; load r15 r14 1; store r15 r14 0; load r15 r14 2; store r15 r14 1")
	expectMoves(t, "8=0 9=8 10=9", "load r15 r14 1; store r15 r14 2; load r15 r14 0; store r15 r14 1; store r1 r14 0")
}

func TestRing(t *testing.T) {
	expectMoves(t, "0=1 1=0", "move r0 r1; move r1 r2; move r2 r0")
	expectMoves(t, "0=1 1=2 2=0", "move r0 r1; move r1 r2; move r2 r3; move r3 r0")
	expectMoves(t, "0=2 1=0 2=1", "move r0 r1; move r1 r3; move r3 r2; move r2 r0")
	expectMoves(t, "3=6 6=3", "move r0 r4; move r4 r7; move r7 r0")
}

func TestTwoRings(t *testing.T) {
	expectMoves(t, "0=1 1=0 2=3 3=2", "move r0 r1; move r1 r2; move r2 r0; move r0 r3; move r3 r4; move r4 r0")
	expectMoves(t, "0=2 1=3 2=0 3=1", "move r0 r1; move r1 r3; move r3 r0; move r0 r2; move r2 r4; move r4 r0")
	expectMoves(t, "0=2 1=4 2=6 4=1 6=0", "move r0 r1; move r1 r3; move r3 r7; move r7 r0; move r0 r2; move r2 r5; move r5 r0")
}

func TestRingsThroughSlots(t *testing.T) {
	expectMoves(t, "8=9 9=8", "load r0 r14 0; load r15 r14 1; store r15 r14 0; store r0 r14 1")
	expectMoves(t, "0=8 8=0", "move r0 r1; load r1 r14 0; store r0 r14 0")
	expectMoves(t, "1=9 9=10 10=1", "move r0 r2; load r2 r14 1; load r15 r14 2; store r15 r14 1; store r0 r14 2")
	expectMoves(t, "8=10 9=8 10=9", "load r0 r14 0; load r15 r14 2; store r15 r14 0; load r15 r14 1; store r15 r14 2; store r0 r14 1")
	expectMoves(t, "0=1 1=0 8=9 9=8", "move r0 r1; move r1 r2; move r2 r0; load r0 r14 0; load r15 r14 1; store r15 r14 0; store r0 r14 1")
	expectMoves(t, "8=7 7=8", "move r0 r8; load r8 r14 0; store r0 r14 0")
}

// One source may have several targets; the first one that is free is taken, and then it begins again with the first one that remains.
func TestSeveralTargets(t *testing.T) {
	expectMoves(t, "1=0 2=0 8=0", "move r2 r1; move r3 r1; store r1 r14 0")
	expectMoves(t, "0=1 2=1 3=0", "move r3 r2; move r4 r1; move r1 r2")
	expectMoves(t, "0=1 1=0 2=0", "move r3 r1; move r0 r1; move r1 r2; move r2 r0")
	expectMoves(t, "0=1 1=0 2=0 8=1 9=8", "move r3 r1; load r15 r14 0; store r15 r14 1; store r2 r14 0; move r0 r1; move r1 r2; move r2 r0")
	expectMoves(t, "0=8 1=8 9=8 10=8", "load r1 r14 0; load r2 r14 0; load r15 r14 0; store r15 r14 1; load r15 r14 0; store r15 r14 2")
	expectMoves(t, "1=0 2=1 4=3 5=3", "move r3 r2; move r2 r1; move r5 r4; move r6 r4")
}
