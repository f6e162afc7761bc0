package isa

import (
	"slices"
	"strconv"
	"strings"
	"testing"

	"debugger/api"
)

// most is the greatest number of steps.
const most = 200000

func expectRun(t *testing.T, text string, size, entry int, args []int, steps int, want api.Outcome) {
	t.Helper()
	expectWords(t, words(t, text), size, entry, args, steps, want)
}

func expectWords(t *testing.T, words []int, size, entry int, args []int, steps int, want api.Outcome) {
	t.Helper()
	if got := Run(words, size, entry, args, steps); !equal(got, want) {
		t.Errorf("P16.4: the outcome is %+v, not %+v, with size %d, entry %d, arguments %v and %d steps of %v", got, want, size, entry, args, steps, words)
	}
}

// fault and fuel return outcomes with an error.
func fault(output ...int) api.Outcome { return api.Outcome{Err: api.ErrFault, Output: output} }
func fuel(output ...int) api.Outcome  { return api.Outcome{Err: api.ErrFuel, Output: output} }

// ended returns the outcome of a run that ended.
func ended(value int, output ...int) api.Outcome { return api.Outcome{Value: value, Output: output} }

func TestArguments(t *testing.T) {
	refused := api.Outcome{Err: api.ErrArg}
	program := "const r0 7; return"
	for _, size := range []int{18, 19, 100, 16383, 16384} {
		expectRun(t, program, size, 0, nil, 2, ended(7))
	}
	for _, size := range []int{17, 16, 2, 0, -1, 16385, 1 << 32, least, greatest} {
		expectRun(t, program, size, 0, nil, 2, refused)
		expectRun(t, program, size, api.Exit, nil, 0, refused)
	}
	expectRun(t, program, 18, 0, []int{1, 2, 3, 4}, 2, ended(7))
	expectRun(t, program, 18, 0, []int{1, 2, 3, 4, 5}, 2, refused)
	expectRun(t, program, 18, 0, make([]int, 20), 2, refused)
	expectRun(t, program, 18, 0, nil, most, ended(7))
	for _, steps := range []int{-1, -2, most + 1, 1 << 32, least, greatest} {
		expectRun(t, program, 18, 0, nil, steps, refused)
		expectRun(t, program, 18, api.Exit, nil, steps, refused)
	}
	expectRun(t, program, 17, -7, make([]int, 5), -1, refused)
}

func TestManyWords(t *testing.T) {
	long := append(words(t, "const r0 7; return"), make([]int, 16366)...)
	expectWords(t, long, 16384, 0, nil, 2, ended(7))
	expectWords(t, long, 16383, 0, nil, 2, api.Outcome{Err: api.ErrArg})
	expectWords(t, append(long, 0), 16384, 0, nil, 2, api.Outcome{Err: api.ErrArg})
	expectWords(t, append(long, 0), 16385, 0, nil, 2, api.Outcome{Err: api.ErrArg})
}

func TestNoWords(t *testing.T) {
	expectRun(t, "", 16, 0, nil, 1, fault())
	expectRun(t, "", 16, 0, nil, 0, fuel())
	expectRun(t, "", 16, api.Exit, nil, 0, ended(0))
	expectRun(t, "", 15, 0, nil, 1, api.Outcome{Err: api.ErrArg})
	expectRun(t, "", 0, 0, nil, 1, api.Outcome{Err: api.ErrArg})
}

// A thread begins with its arguments, and the stack pointer at the last word.
func TestFirstRegisters(t *testing.T) {
	text := ""
	for register := range 16 {
		text += "print r" + strconv.Itoa(register) + "; "
	}
	for _, args := range [][]int{nil, {-1}, {5, 6}, {least, 0, greatest}, {9, 8, 7, 6}} {
		want := make([]int, 16)
		copy(want[1:], args)
		want[14] = 34
		expectRun(t, text+"return", 35, 0, args, 17, ended(0, want...))
	}
}

// The words are followed by zeros, and the last word of the memory is Exit.
func TestFirstMemory(t *testing.T) {
	text := "load r2 r1 0; print r2; addimm r1 r1 1; less r3 r1 r14; zero r3 6; jump 0; load r2 r1 0; print r2; return; word -77; word 5"
	want := append(words(t, text), make([]int, 19)...)
	want = append(want, -1)
	expectRun(t, text, 31, 0, nil, 1000, ended(0, want...))
}

func TestEntry(t *testing.T) {
	program := "const r0 7; return; const r0 8; return"
	expectRun(t, program, 20, 0, nil, 9, ended(7))
	expectRun(t, program, 20, 1, nil, 9, ended(0))
	expectRun(t, program, 20, 2, nil, 9, ended(8))
	for _, entry := range []int{-2, 4, 18, 19, 20, 21, 1 << 32, least, greatest} {
		expectRun(t, program, 20, entry, nil, 1, fault())
		expectRun(t, program, 20, entry, nil, 0, fuel())
	}
	expectRun(t, program, 20, api.Exit, []int{1, 2, 3, 4}, 0, ended(0))
	expectRun(t, program, 20, api.Exit, nil, most, ended(0))
}

// With as many steps as are needed the run ends, and with fewer it does not; the output is that of the steps.
func TestSteps(t *testing.T) {
	text := "print r1; addimm r1 r1 -1; zero r1 4; jump 0; const r13 1; move r0 r14; return"
	printed := []int{3, 2, 1}
	for steps := range 14 {
		expectRun(t, text, 23, 0, []int{3}, steps, fuel(printed[:min((steps+3)/4, 3)]...))
	}
	for _, steps := range []int{14, 15, 200, most} {
		expectRun(t, text, 23, 0, []int{3}, steps, api.Outcome{Thrown: true, Value: 22, Output: printed})
	}
}

// Errors are looked for ahead of each instruction, the number of steps first.
func TestFuelFirst(t *testing.T) {
	for _, text := range []string{"const r1 4; break", "const r1 4; word 0", "const r1 -1; load r0 r1 0", "const r1 -1; store r0 r1 0", "const r1 1; jump 999"} {
		expectRun(t, text, 30, 0, nil, 1, fuel())
		expectRun(t, text+"; nop", 30, 0, nil, 2+strings.Count(text, "jump"), fault())
	}
	expectRun(t, "const r1 1; jump 999", 30, 0, nil, 2, fuel())
	expectRun(t, "const r1 1; jump -1", 30, 0, nil, 2, ended(0))
	expectRun(t, "const r1 1; jump -1", 30, 0, nil, 1, fuel())
}

// A program may end by any instruction that leads to Exit.
func TestEnds(t *testing.T) {
	expectRun(t, "const r0 5; jump -1", 18, 0, nil, 9, ended(5))
	expectRun(t, "zero r0 -1", 17, 0, nil, 9, ended(0))
	expectRun(t, "const r0 5; call -1", 18, 0, nil, 9, ended(5))
	expectRun(t, "const r1 4; move r14 r1; const r0 6; return; word -1", 21, 0, nil, 9, ended(6))
}

func TestThrown(t *testing.T) {
	for _, flag := range []int{1, -1, 2, least, greatest, 1 << 32, 1 << 62} {
		expectRun(t, "move r13 r1; move r0 r2; return", 19, 0, []int{flag, -8}, 9, api.Outcome{Thrown: true, Value: -8})
	}
	expectRun(t, "move r13 r1; move r0 r2; return", 19, 0, []int{0, least}, 9, ended(least))
	for register := range 16 {
		if register != api.Flag && register != api.SP {
			text := "const r" + strconv.Itoa(register) + " 1; const r0 3; return"
			expectRun(t, text, 19, 0, nil, 9, ended(3))
		}
	}
}

// Beside an error Value is 0 and Thrown is false, and the output ends with the last instruction that was executed.
func TestOutputAheadOfErrors(t *testing.T) {
	begin := "const r0 5; const r13 1; print r0; print r13; "
	for _, end := range []string{"break", "word 0", "word 26", "jump -2", "load r1 r1 -1", "store r1 r1 -1", "pool r1 -1", "const r14 -1; return"} {
		expectRun(t, begin+end, 40, 0, nil, 99, fault(5, 1))
	}
	expectRun(t, begin+"jump 2", 40, 0, nil, 8, fuel(5, 1, 5, 1))
	expectRun(t, begin+"jump 2", 40, 0, nil, 9, fuel(5, 1, 5, 1, 5))
	expectRun(t, "print r1; jump 0", 40, 0, []int{least}, most, fuel(slices.Repeat([]int{least}, most/2)...))
}

// Every address that is read or stored to is from 0 to size - 1; the size is 30.
func TestAddresses(t *testing.T) {
	for _, c := range []struct {
		text string
		want api.Outcome
	}{
		{"load r0 r1 0; jump -1", ended(19 + 1<<16)},
		{"load r0 r1 29; jump -1", ended(-1)},
		{"load r0 r1 28; jump -1", ended(0)},
		{"load r0 r1 30; jump -1", fault()},
		{"load r0 r1 -1; jump -1", fault()},
		{"pool r0 0; jump -1", ended(4)},
		{"pool r0 29; jump -1", ended(-1)},
		{"pool r0 30; jump -1", fault()},
		{"pool r0 -1; jump -1", fault()},
		{"pool r0 -2147483648; jump -1", fault()},
		{"store r14 r1 0; load r0 r1 0; jump -1", ended(29)},
		{"store r1 r1 29; load r0 r1 29; jump -1", ended(0)},
		{"store r1 r1 30; jump -1", fault()},
		{"store r1 r1 -1; jump -1", fault()},
		{"store r1 r1 2147483647; jump -1", fault()},
		{"addimm r14 r14 1; return", fault()},
		{"const r14 0; return", fault()},
		{"const r14 1; return", fault()},
		{"const r14 3; return; nop; jump 4; word 3; jump -1", fault()},
		{"const r14 4; return; jump -1; nop; word 2", ended(0)},
		{"const r14 -1; return", fault()},
		{"const r14 30; return", fault()},
		{"const r14 0; call 2; jump -1", fault()},
		{"const r14 30; call 2; load r0 r14 0; addimm r0 r0 100; jump -1", ended(102)},
		{"const r14 31; call 2; jump -1", fault()},
		{"const r14 1; call 2; load r0 r1 0; jump -1", ended(2)},
	} {
		expectRun(t, c.text, 30, 0, nil, 99, c.want)
	}
	for _, far := range []int{least, greatest, 1 << 32, 1<<32 + 3, -30} {
		expectRun(t, "load r0 r1 0; jump -1", 30, 0, []int{far}, 99, fault())
		expectRun(t, "store r0 r1 0; jump -1", 30, 0, []int{far}, 99, fault())
		expectRun(t, "move r14 r1; return", 30, 0, []int{far}, 99, fault())
		expectRun(t, "move r14 r1; call 2; jump -1", 30, 0, []int{far}, 99, fault())
	}
}

// A word that is no instruction, or a Break, cannot be executed, but may be read and changed.
func TestNoInstructions(t *testing.T) {
	for _, w := range []string{"0", "2", "26", "255", "-1", "1048577", "4097", "268435457", "-9223372036854775808"} {
		expectRun(t, "print r14; word "+w, 30, 0, nil, 99, fault(29))
		n, _ := strconv.Atoi(w)
		expectRun(t, "pool r0 2; return; word "+w, 30, 0, nil, 99, ended(n))
	}
	expectRun(t, "break", 30, 0, nil, 99, fault())
	expectRun(t, "const r1 1; print r1", 30, 0, nil, 99, fault(1))
}

// What a program stores is executed.
func TestOwnWords(t *testing.T) {
	expectRun(t, "pool r2 5; store r2 r1 3; const r0 1; break; return; const r0 9", 30, 0, nil, 99, ended(9))
	expectRun(t, "pool r2 4; store r2 r1 2; const r0 1; jump -1; const r0 9", 30, 0, nil, 99, ended(9))
	expectRun(t, "pool r2 4; store r2 r1 2; const r0 1; jump -1; word 2", 30, 0, nil, 99, fault())
	expectRun(t, "pool r2 5; store r2 r1 20; pool r2 6; store r2 r1 21; jump 20; const r0 7; return", 30, 0, nil, 99, ended(7))
	expectRun(t, "print r1; addimm r1 r1 1; pool r2 0; const r3 256; sub r2 r2 r3; store r2 r4 0; zero r5 0", 30, 0, []int{1}, 20, fault(1, 0))
	expectRun(t, "call 1; pool r2 4; store r2 r14 0; jump 28; jump -1", 30, 0, nil, 99, ended(0))
	expectRun(t, "call 1; jump 28", 30, 0, nil, 3, fuel()) // the address behind the Call is the word of a Nop
	expectRun(t, "call 1; jump 28", 30, 0, nil, 4, fault())
}

func TestCalls(t *testing.T) {
	// A function that calls itself: the sum of the numbers up to its argument.
	sum := "const r0 0; zero r1 9; addimm r14 r14 -1; store r1 r14 0; addimm r1 r1 -1; call 0; load r1 r14 0; addimm r14 r14 1; add r0 r0 r1; return"
	expectRun(t, sum, 100, 0, []int{0}, 999, ended(0))
	expectRun(t, sum, 100, 0, []int{10}, 999, ended(55))
	expectRun(t, sum, 100, 0, []int{44}, 999, ended(990))
	expectRun(t, sum, 16384, 0, []int{5000}, most, ended(12502500))
	expectRun(t, sum, 16384, 0, []int{9000}, most, fault()) // its words are stored over
}

// Every run ends, also that of a program which does not.
func TestEndless(t *testing.T) {
	for _, text := range []string{"jump 0", "zero r0 0", "nop; jump 0", "call 1; addimm r14 r14 1; jump 0", "load r2 r14 0; store r2 r14 0; addimm r1 r1 1; jump 0"} {
		expectRun(t, text, 100, 0, nil, most, fuel())
	}
	expectRun(t, "call 0", 100, 0, nil, most, fault())
	expectRun(t, "const r14 5; call 1; return", 100, 0, nil, most, fault()) // it stores over itself
}
