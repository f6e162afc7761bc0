// Package wire is layer 1: see shared/doc/01-wire.md.
package wire

import "debugger/api"

// The longest numbers: how many bytes they have, and how great the last of these may be. A uint has 9 * 7 = 63 bits, an int one bit more, in a tenth byte.
const (
	uintBytes = 9
	uintLast  = 127
	intBytes  = 10
	intLast   = 1
)

// AppendUint returns b with a number from 0 on behind it.
func AppendUint(b []byte, v int) []byte {
	if v < 0 {
		return extended(b, 0)
	}
	return appendNumber(b, uint64(v), 0)
}

// AppendInt returns b with a number behind it.
func AppendInt(b []byte, v int) []byte {
	n := uint64(v) << 1
	if v < 0 {
		n = ^n // -2v - 1, which an int cannot hold
	}
	return appendNumber(b, n, 0)
}

// AppendText returns b with a text behind it.
func AppendText(b []byte, s string) []byte {
	return append(appendNumber(b, uint64(len(s)), len(s)), s...)
}

// Uint returns the number at a place, and the next place.
func Uint(b []byte, at int) (int, int, api.Errno) {
	n, next, e := number(b, at, uintBytes, uintLast)
	return int(n), next, e
}

// Int returns the number at a place, and the next place.
func Int(b []byte, at int) (int, int, api.Errno) {
	n, next, e := number(b, at, intBytes, intLast)
	v := int(n >> 1)
	if n&1 == 1 {
		v = ^v
	}
	return v, next, e
}

// Text returns the text at a place, and the next place.
func Text(b []byte, at int) (string, int, api.Errno) {
	n, first, e := Uint(b, at)
	if e != api.OK {
		return "", 0, e
	}
	if n > len(b)-first { // not first+n > len(b), which may wrap around
		return "", 0, api.ErrTruncated
	}
	return string(b[first : first+n]), first + n, api.OK
}

// extended returns a copy of b with room for more bytes.
func extended(b []byte, more int) []byte {
	return append(make([]byte, 0, len(b)+more), b...)
}

// appendNumber returns a copy of b with a number behind it, and room for more bytes.
func appendNumber(b []byte, n uint64, more int) []byte {
	b = extended(b, intBytes+more)
	for ; n > 127; n >>= 7 {
		b = append(b, byte(n)|128)
	}
	return append(b, byte(n))
}

// number returns the number at a place, and the next place. It has at most width bytes, and the one at width is at most last.
func number(b []byte, at, width int, last byte) (uint64, int, api.Errno) {
	if at < 0 || at > len(b) {
		return 0, 0, api.ErrArg
	}
	take := bytesFrom(b, at)
	n := uint64(0)
	for i := 0; ; i++ {
		c, next, ok := take()
		switch {
		case !ok:
			return 0, 0, api.ErrTruncated
		case i == width-1 && c > last:
			return 0, 0, api.ErrRange
		case i > 0 && c == 0:
			return 0, 0, api.ErrForm
		}
		n |= uint64(c&127) << (7 * i)
		if c <= 127 {
			return n, next, api.OK
		}
	}
}

// bytesFrom returns a function that returns one byte after another from a place on, with the place behind it, and whether there is one.
func bytesFrom(b []byte, at int) func() (byte, int, bool) {
	return func() (byte, int, bool) {
		if at >= len(b) {
			return 0, 0, false
		}
		at++
		return b[at-1], at, true
	}
}
