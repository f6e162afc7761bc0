package alloc

import (
	"testing"

	"debugger/api"
	"debugger/passes"
)

const allRegisters = "r1 r2 r3 r4 r5 r6 r7 r8 r9 r10 r11 r12"

// An operation may put its value into the register of one that it uses for the last time.
func TestReuse(t *testing.T) {
	expectBoth(t, "P15.3", "(2) v2 = v0 + v1; return v2", "r1 r2 r1")
	expectBoth(t, "P15.3", "(2) v2 = v1 * v1; tail 0(v0 v2)", "r1 r2 r2")
	expectBoth(t, "P15.3", "(3) v3 = copy v1; v4 = v3 - v2; tail 0(v0 v4)", "r1 r2 r3 r2 r2")
	expectBoth(t, "P15.3", lines("object 0 0 1", "(2) v2 = load 0 v1; tail 0(v0 v2)"), "r1 r2 r2")
	expectBoth(t, "P15.3", "(2) v2 = v0 + v1; v3 = v0 + v1; tail 0(v2 v3)", "r1 r2 r3 r1")
}

// The lowest register that is free is taken, whatever became free last.
func TestLowest(t *testing.T) {
	expectBoth(t, "P15.3", "(4) print v3; print v1; print v2; v4 = 1; v5 = 2; v6 = 3; v7 = 4; jump 1(v0 v4 v5 v6 v7)\n(5) return v0", "r1 r2 r3 r4 r2 r3 r4 r5", "r1 r2 r3 r4 r5")
}

// The next operation takes the place of a value that nothing uses, in a register or in a slot.
func TestNothingUses(t *testing.T) {
	expectBoth(t, "P15.3", "(1) v1 = 1; v2 = 2; v3 = 3; tail 0(v0 v3)", "r1 r2 r2 r2")
	text := "(0) " + constants(0, 15) + prints(0, 12) + prints(14, 15) + "return v14"
	expectBoth(t, "P15.3", text, allRegisters+" s0 s0 s0")
	expectFrame(t, "P15.3", text, frame{1, 0, nil, 1})
	text = "(0) " + constants(0, 13) + prints(0, 12) + "return v0"
	expectBoth(t, "P15.3", text, allRegisters+" s0")
	expectFrame(t, "P15.3", text, frame{1, 0, nil, 1})
}

// With all registers occupied the lowest spill slot that is free is taken.
func TestSpills(t *testing.T) {
	text := "(0) " + constants(0, 16) + "print v14; print v13; v16 = 1; v17 = copy v12; v18 = 2; v19 = 3; " + prints(0, 12) + prints(15, 20) + "return v0"
	expectBoth(t, "P15.3", text, allRegisters+" s0 s1 s2 s3 s1 s0 s2 s4")
	expectFrame(t, "P15.3", text, frame{5, 0, nil, 5})
	text = "(0) " + constants(0, 12) + prints(0, 12) + "return v0"
	expectBoth(t, "P15.3", text, allRegisters)
	expectFrame(t, "P15.3", text, frame{})
}

// Behind a spill a register that becomes free is taken again, ahead of all slots.
func TestFreeAgain(t *testing.T) {
	text := "(0) " + constants(0, 14) + "print v12; print v6; v14 = 1; v15 = 1; v16 = v4 + v13; v17 = 1; v18 = v14 / v15; " + prints(0, 4) + prints(5, 6) + prints(7, 12) + prints(16, 19) + "return v0"
	expectBoth(t, "P15.3", text, allRegisters+" s0 s1 r7 s0 r5 s1 r7")
	expectFrame(t, "P15.3", text, frame{2, 0, nil, 2})
}

// Spill slots are behind the parameter slots of all blocks; those of parameters that nothing uses are not taken.
func TestSpillsBehindParameters(t *testing.T) {
	spilled := constants(20, 34) + prints(20, 34)
	text := lines("(0) "+spilled+"jump 1("+arguments(20, 11)+")", "(11) "+spilled+"jump 2("+arguments(20, 9)+")", "(9) print v8; jump 3()", "(0) "+constants(0, 13)+prints(0, 13)+"return v0")
	expectBoth(t, "P15.3", text, dashes(20)+"r1 r2 r3 r4 r5 r6 r7 r8 r9 r10 r11 r12 s3 s4", "r1 r2 r3 r4 r5 r6 r7 r8 s0 s1 s2 "+dashes(9)+"r1 r2 r3 r4 r5 r6 r7 r8 r9 r10 r11 r12 s3 s4", "r1 r2 r3 r4 r5 r6 r7 r8 s0", allRegisters+" s3")
	expectFrame(t, "P15.3", text, frame{5, 0, nil, 5})
}

// Parameters in slots leave four registers free for values; parameters in registers occupy them up to their last use.
func TestParametersAndValues(t *testing.T) {
	text := lines("(1) jump 1("+zeros(10)+")", "(10) "+constants(10, 15)+"print v3; v15 = 1; "+prints(4, 10)+prints(0, 3)+prints(10, 16)+"v16 = 1; return v8")
	expectBoth(t, "P15.3", text, "r1", "r1 r2 r3 r4 r5 r6 r7 r8 s0 s1 r9 r10 r11 r12 s2 r4 r1")
	expectFrame(t, "P15.3", text, frame{3, 0, nil, 3})
}

// Each block begins anew; the one that needs the most spill slots decides how many there are.
func TestSpillSlotsOfSeveralBlocks(t *testing.T) {
	need := func(count int) string {
		return "(0) " + constants(0, 12+count) + prints(0, 12+count)
	}
	text := lines(need(1)+"jump 1()", need(3)+"jump 2()", need(2)+"return v0")
	expectBoth(t, "P15.3", text, allRegisters+" s0", allRegisters+" s0 s1 s2", allRegisters+" s0 s1")
	expectFrame(t, "P15.3", text, frame{3, 0, nil, 3})
}

// Operations that define nothing take no place, whatever their fields say.
func TestNoValues(t *testing.T) {
	expectBoth(t, "P15.3", lines("object 0 0 3", "(1) zero 0; mark 1; store 0 v0 v0; print v0; at 3; bind 0 to v0; v1 = 1; return v1"), "r1 r1")
}

// The largest code may have all operations in one block, and keep all values.
func TestLargest(t *testing.T) {
	c := passes.Largest(t)
	c.Blocks[0].Ops = nil
	for i := 1; i < len(c.Blocks); i++ {
		c.Blocks[i].Ops = nil
		c.Blocks[i].Term = api.Term{Kind: api.TermReturn, To: [2]api.Edge{{Block: -1}, {Block: -1}}}
	}
	half := api.MaxOps / 2
	for v := range half {
		c.Blocks[0].Ops = append(c.Blocks[0].Ops, api.Op{Kind: api.OpConst, Dst: 2 + v})
	}
	for v := range half {
		c.Blocks[0].Ops = append(c.Blocks[0].Ops, api.Op{Kind: api.OpPrint, A: 2 + v})
	}
	c.Blocks[0].Term = api.Term{Kind: api.TermReturn, To: [2]api.Edge{{Block: -1}, {Block: -1}}}
	l := layout(t, c, true)
	if last := l.Places[0][1+half]; l.Slots != half-11 || last != (api.Place{Kind: api.PlaceSlot, N: half - 12}) {
		t.Errorf("P15.3: there are %d slots, and the last value is in %+v", l.Slots, last)
	}
}
