package lines

import (
	"slices"
	"testing"

	"debugger/api"
)

// expectPrograms checks the error of tables from an address on whose programs do the parts; it is the same whatever follows them.
func expectPrograms(t *testing.T, about string, lo int, want api.Errno, parts ...[]byte) {
	t.Helper()
	b := section(1, head(lo, 10), slices.Concat(parts...))
	expectError(t, about+", and no end", b, want)
	expectError(t, about, append(slices.Clip(b), 0), want)
	expectError(t, about+", and what is no operation", append(slices.Clip(b), 6), want)
	expectError(t, about+", and a number that is none", append(slices.Clip(b), 2, 128, 0), want)
}

// expectHeld checks that tables from an address on whose programs do the parts are not right, but nothing else is wrong with them.
func expectHeld(t *testing.T, about string, lo int, parts ...[]byte) {
	t.Helper()
	b := section(1, head(lo, 10), slices.Concat(parts...))
	expectError(t, about+", and no end", b, api.ErrTruncated)
	expectError(t, about, append(slices.Clip(b), 0), api.ErrForm)
}

func TestAddressesTooFar(t *testing.T) {
	expectDecoded(t, "as far as may be", single(address(farthest)), table(0, 10))
	expectDecoded(t, "as far as may be in steps", single(address(farthest-5), address(5), address(0)), table(0, 10))
	expectDecoded(t, "as far as may be behind a row", single(ops(27), address(farthest-1)), table(0, 10, mark(1, 0)))
	expectPrograms(t, "too far", 0, api.ErrRange, address(farthest+1))
	expectPrograms(t, "too far in steps", 0, api.ErrRange, address(farthest-5), address(6))
	expectPrograms(t, "too far behind a row", 0, api.ErrRange, ops(27), address(farthest))
	expectPrograms(t, "too far from Lo", 9, api.ErrRange, address(farthest-8))
	expectDecoded(t, "as far as may be from Lo", section(1, head(9, 10), address(farthest-9), ops(0)), table(9, 10))
	for _, n := range []int{1 << 41, 1 << 62, greatest - 1, greatest} {
		expectPrograms(t, "much too far", 0, api.ErrRange, address(n))
		expectPrograms(t, "much too far from Lo", 5, api.ErrRange, address(n))
		expectPrograms(t, "much too far in steps", 0, api.ErrRange, address(farthest), address(n))
	}
}

func TestLoTooFar(t *testing.T) {
	expectHeld(t, "Lo as far as may be", farthest, address(0))
	expectHeld(t, "Lo below it", farthest-1, address(1))
	expectHeld(t, "Lo too far", farthest+1)
	expectHeld(t, "Lo too far, and rows", greatest, ops(4, 5, 19, 26, 255))
	for _, lo := range []int{farthest + 1, 1 << 41, 1 << 62, greatest - 1, greatest} {
		for _, n := range []int{0, 1, farthest, 1 << 62, greatest} {
			expectPrograms(t, "Lo too far", lo, api.ErrRange, address(n))
		}
	}
	expectPrograms(t, "Lo as far as may be", farthest, api.ErrRange, address(1))
	expectPrograms(t, "Lo below it", farthest-1, api.ErrRange, address(2))
}

// Short operations may bring an address anywhere, but operation 1 asks where it is.
func TestShortOperationsTooFar(t *testing.T) {
	expectHeld(t, "behind as far as may be", 0, address(farthest), ops(24))
	expectHeld(t, "up to as far as may be", 0, address(farthest-29), ops(255), address(0))
	expectHeld(t, "above the greatest int", greatest, ops(255, 255, 255))
	for _, n := range []int{0, 1, 29, farthest, 1 << 62, greatest - 30, greatest - 1, greatest} {
		expectPrograms(t, "behind as far as may be", 0, api.ErrRange, address(farthest), ops(24), address(n))
		expectPrograms(t, "far behind it", 0, api.ErrRange, address(farthest), ops(255, 4, 255), address(n))
		expectPrograms(t, "up to the greatest int", greatest-29, api.ErrRange, ops(248), address(n))
		expectPrograms(t, "above the greatest int", greatest, api.ErrRange, ops(24), address(n))
		expectPrograms(t, "above the greatest int", greatest-28, api.ErrRange, ops(255), address(n))
		expectPrograms(t, "further above it", greatest, api.ErrRange, ops(255, 255, 255, 5), address(n))
	}
}

func TestContextsTooFar(t *testing.T) {
	expectDecoded(t, "as far as may be", single(context(farthest), context(1), statement(1), ops(5)), table(0, 10, in(1, mark(0, 0))))
	expectHeld(t, "as far as may be, and a row", 0, context(farthest), ops(19))
	for _, n := range []int{farthest + 1, 1 << 41, 1 << 62, greatest} {
		expectPrograms(t, "too far", 0, api.ErrRange, context(n))
		expectPrograms(t, "too far, and back", 0, api.ErrRange, context(n), context(0))
		expectPrograms(t, "too far behind a row", 0, api.ErrRange, ops(19), context(farthest), context(n))
	}
}

func TestStatementsTooFar(t *testing.T) {
	expectDecoded(t, "as far as may be", single(statement(farthest+1), statement(-2*farthest), statement(2*farthest), statement(-farthest), ops(4)), table(0, 10, row(0, 0)))
	expectPrograms(t, "too far", 0, api.ErrRange, statement(farthest+2))
	expectPrograms(t, "too far, and back", 0, api.ErrRange, statement(farthest+2), statement(-farthest))
	expectPrograms(t, "too far in steps", 0, api.ErrRange, statement(farthest+1), statement(1))
	expectDecoded(t, "as far below 0 as may be", single(statement(-farthest+1)), table(0, 10))
	expectPrograms(t, "too far below 0", 0, api.ErrRange, statement(-farthest))
	expectPrograms(t, "too far below 0 in steps", 0, api.ErrRange, statement(-farthest+1), statement(-1))
	expectPrograms(t, "a change that is too great", 0, api.ErrRange, statement(-farthest+1), statement(2*farthest+1))
	expectPrograms(t, "a change that is too great", 0, api.ErrRange, statement(farthest+1), statement(-2*farthest-1))
	for _, n := range []int{1 << 42, 1 << 62, greatest - 1, greatest, -1 << 42, -1 << 62, least + 1, least} {
		expectPrograms(t, "much too far", 0, api.ErrRange, statement(n))
		expectPrograms(t, "much too far, from a statement", 0, api.ErrRange, statement(5), statement(n))
		expectPrograms(t, "much too far, from the greatest", 0, api.ErrRange, statement(farthest+1), statement(n))
		expectPrograms(t, "much too far, from the least", 0, api.ErrRange, statement(-farthest+1), statement(n))
	}
}

// Short operations may bring a statement anywhere, but operation 3 asks where it is then, and how far it comes from.
func TestShortChangesTooFar(t *testing.T) {
	up, down := statement(farthest+1), statement(-farthest+1)
	expectHeld(t, "above", 0, up, ops(255))
	expectHeld(t, "above, and back", 0, up, ops(255), statement(-5))
	expectPrograms(t, "above, and not far enough back", 0, api.ErrRange, up, ops(255), statement(-4))
	expectPrograms(t, "above, and no change", 0, api.ErrRange, up, ops(255), statement(0))
	expectHeld(t, "above, and the greatest change", 0, up, ops(255), statement(-2*farthest))
	expectPrograms(t, "above, and a change that is too great", 0, api.ErrRange, up, ops(255), statement(-2*farthest-1))
	expectPrograms(t, "above, and a change that is too great", 0, api.ErrRange, up, ops(255), statement(-2*farthest-5))
	expectHeld(t, "below", 0, down, ops(16))
	expectHeld(t, "below, and back", 0, down, ops(16), statement(2))
	expectPrograms(t, "below, and not far enough back", 0, api.ErrRange, down, ops(16), statement(1))
	expectPrograms(t, "below, and no change", 0, api.ErrRange, down, ops(16), statement(0))
	expectHeld(t, "below, and the greatest change", 0, down, ops(16), statement(2*farthest))
	expectPrograms(t, "below, and a change that is too great", 0, api.ErrRange, down, ops(16), statement(2*farthest+1))
	expectPrograms(t, "below, and a change that is too great", 0, api.ErrRange, down, ops(16), statement(2*farthest+2))
}

// The errors of numbers are those of wire, wherever there is a number.
func TestNumbers(t *testing.T) {
	form := [][]byte{{128, 0}, {255, 0}, {128, 128, 0}, {129, 128, 128, 128, 128, 128, 128, 128, 0}}
	long := [][]byte{slices.Repeat([]byte{255}, 9), slices.Repeat([]byte{128}, 9)}
	ahead := [][]byte{{}, {1}, {1, 4}, {1, 4, 9, 1}, {1, 4, 9, 27, 2}, {2, 4, 9, 0}, {2, 4, 9, 0, 9, 12, 1}}
	for _, first := range ahead {
		for _, number := range form {
			expectError(t, "a superfluous group", slices.Concat(first, number), api.ErrForm)
			expectError(t, "a superfluous group, and more", slices.Concat(first, number, []byte{6}), api.ErrForm)
		}
		for _, number := range long {
			expectError(t, "too many groups", slices.Concat(first, number), api.ErrRange)
			expectError(t, "too many groups, and more", slices.Concat(first, number, []byte{1, 6}), api.ErrRange)
			expectError(t, "no end of a number", slices.Concat(first, number[:8]), api.ErrTruncated)
		}
	}
	first := []byte{1, 4, 9, 3}
	for _, number := range append(form, append(slices.Repeat([]byte{128}, 9), 0)) {
		expectError(t, "a superfluous group of an int", slices.Concat(first, number), api.ErrForm)
	}
	expectError(t, "no end of an int", slices.Concat(first, long[0]), api.ErrTruncated)
	for _, last := range []byte{2, 127, 128, 255} {
		expectError(t, "too great a last group of an int", slices.Concat(first, long[0], []byte{last}), api.ErrRange)
	}
}

// What is wrong first decides.
func TestSeveralErrors(t *testing.T) {
	far, wide := address(farthest+1), context(farthest+1)
	expectError(t, "a number that is no number of tables, and large", slices.Repeat([]byte{255}, 9), api.ErrRange)
	expectError(t, "too many tables, and an operation that there is not", section(9, head(0, 1), ops(6)), api.ErrLimit)
	expectError(t, "ErrRange ahead of ErrForm", single(far, ops(6)), api.ErrRange)
	expectError(t, "ErrForm ahead of ErrRange", single(ops(6), far), api.ErrForm)
	expectError(t, "ErrRange ahead of a superfluous group", single(wide, ops(1, 128, 0)), api.ErrRange)
	expectError(t, "a superfluous group ahead of ErrRange", single(ops(1, 128, 0), wide), api.ErrForm)
	expectError(t, "a superfluous group of a number for an address that is too far", section(1, head(greatest, 9), ops(1, 128, 0)), api.ErrForm)
	expectError(t, "the end ahead of a number for an address that is too far", section(1, head(greatest, 9), ops(1)), api.ErrTruncated)
	expectError(t, "tables that are not right, and ErrRange", section(2, head(5, 4), ops(0), head(0, 1), wide, ops(0)), api.ErrRange)
	expectError(t, "tables that are not right, and the end", section(2, head(5, 4), ops(0)), api.ErrTruncated)
	expectError(t, "too many rows ahead of ErrRange", section(1, head(0, 9), slices.Repeat([]byte{4}, api.MaxRows+1), far), api.ErrLimit)
	expectError(t, "ErrRange ahead of too many rows", section(1, head(0, 9), slices.Repeat([]byte{4}, api.MaxRows), far, ops(4)), api.ErrRange)
	expectError(t, "ErrForm ahead of too many rows", section(1, head(0, 9), slices.Repeat([]byte{4}, api.MaxRows), ops(15, 4)), api.ErrForm)
}
