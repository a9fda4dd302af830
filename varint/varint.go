// Package varint is layer 1: see shared/doc/01-varint.md.
package varint

import "truffle/api"

// A byte keeps sevenBits of a number; its highest one says that more stands behind.
const (
	sevenBits = 7
	goesOn    = 1 << sevenBits
	byteBits  = 8
)

// Put is a number's bytes.
func Put(n uint64) []byte {
	out := make([]byte, 0, Long(n))
next:
	if n < goesOn {
		return append(out, byte(n))
	}
	out = append(out, byte(n)|goesOn)
	n >>= sevenBits
	goto next
}

// Get is the number that begins at at, and the place behind it.
func Get(b []byte, at, upto int) (uint64, int, api.Errno) {
	if !mayBe(b, at, upto) {
		return 0, 0, api.ErrArg
	}
	var n uint64
	for i := range min(upto-at, api.MaxVarint) {
		part := b[at+i]
		// What the tenth byte has beyond 64 bits is shifted out: a number is told modulo 2^64.
		n |= uint64(part%goesOn) << (sevenBits * i)
		if part < goesOn {
			return n, at + i + 1, api.OK
		}
	}
	if upto-at < api.MaxVarint {
		return 0, 0, api.ErrCut
	}
	return 0, 0, api.ErrVarint
}

// Long is how many bytes a number has.
func Long(n uint64) int {
	long := 1
next:
	if n < goesOn {
		return long
	}
	n >>= sevenBits
	long++
	goto next
}

// Fix is the lowest bytes of a number, four or eight.
func Fix(n uint64, size int) ([]byte, bool) {
	if !isSize(size) {
		return nil, false
	}
	out := make([]byte, size)
	for i := range size {
		out[i] = byte(n >> (byteBits * i))
	}
	return out, true
}

// Unfix is the number of four or eight bytes, and the place behind them.
func Unfix(b []byte, at, upto, size int) (uint64, int, api.Errno) {
	if !mayBe(b, at, upto) || !isSize(size) {
		return 0, 0, api.ErrArg
	}
	if upto-at < size {
		return 0, 0, api.ErrCut
	}
	var n uint64
	for i := range size {
		n |= uint64(b[at+i]) << (byteBits * i)
	}
	return n, at + size, api.OK
}

// mayBe tells whether at and upto are places of b, and at is not above upto.
func mayBe(b []byte, at, upto int) bool {
	return 0 <= at && at <= upto && upto <= len(b)
}

// isSize tells whether there are numbers of so many bytes.
func isSize(size int) bool {
	return size == 4 || size == 8
}
