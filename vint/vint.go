// Package vint is layer 1: see shared/doc/01-vint.md.
package vint

import (
	"lapidary/api"
)

const (
	bitsPerByte = 7      // a byte's eighth bit tells whether another one follows
	more        = 1 << 7 // that eighth bit
	longest     = 10     // 64 bits need so many bytes of seven
	topByte     = 1      // nine bytes hold 63 bits: the tenth has room for one
	maxWidth    = 8      // bytes of a uint64
)

// Put writes the numbers one behind the other, each in as few bytes as it needs.
func Put(l ...uint64) []byte {
	var b []byte
	for _, n := range l {
		for n >= more {
			b = append(b, byte(n)|more)
			n >>= bitsPerByte
		}
		b = append(b, byte(n))
	}
	return b
}

// Get reads the number that begins at at, and tells the place behind it.
func Get(b []byte, at int) (uint64, int, api.Errno) {
	if at < 0 || at > len(b) {
		return 0, 0, api.ErrArg
	}
	var n uint64
	size := 0
number:
	for i, c := range b[at:] {
		n |= uint64(c&^more) << (bitsPerByte * i)
		switch {
		case i == longest-1 && c > topByte:
			return 0, 0, api.ErrForm
		case i > 0 && c == 0:
			// The same number has a shorter form.
			return 0, 0, api.ErrForm
		case c < more:
			size = i + 1
			break number
		}
	}
	if size == 0 {
		return 0, 0, api.ErrShort
	}
	return n, at + size, api.OK
}

// All reads numbers to the end of b.
func All(b []byte) ([]uint64, api.Errno) {
	var l []uint64
	for at := 0; at < len(b); {
		n, to, e := Get(b, at)
		if e != api.OK {
			return nil, e
		}
		l = append(l, n)
		at = to
	}
	return l, api.OK
}

// Zig lays signed numbers by turns, so that those near 0 are few bytes: 0, -1, 1, -2, ..
func Zig(n int) uint64 {
	u := uint64(n) << 1
	if n < 0 {
		// -2n - 1 is the complement of 2n, and so no step of it goes beyond 64 bits.
		return ^u
	}
	return u
}

// Zag is the number whose Zig is u.
func Zag(u uint64) int {
	half := int(u >> 1)
	if u&1 == 1 {
		return ^half
	}
	return half
}

// PutInt writes a signed number.
func PutInt(n int) []byte {
	return Put(Zig(n))
}

// GetInt reads the signed number that begins at at, and tells the place behind it.
func GetInt(b []byte, at int) (int, int, api.Errno) {
	u, to, e := Get(b, at)
	return Zag(u), to, e // Beside an error u is 0, and so is its Zag.
}

// Fixed writes a number in width bytes, the lowest first.
func Fixed(n uint64, width int) ([]byte, api.Errno) {
	if !rightWidth(width) || n>>(8*width) != 0 {
		return nil, api.ErrArg
	}
	b := make([]byte, width)
	for i := range b {
		b[i] = byte(n >> (8 * i))
	}
	return b, api.OK
}

// Field reads the number of width bytes that stands at at.
func Field(b []byte, at int, width int) (uint64, api.Errno) {
	if !rightWidth(width) || at < 0 {
		return 0, api.ErrArg
	}
	// Not at+width > len(b): that sum may go round.
	if len(b)-at < width {
		return 0, api.ErrShort
	}
	var n uint64
	for i, c := range b[at : at+width] {
		n |= uint64(c) << (8 * i)
	}
	return n, api.OK
}

func rightWidth(width int) bool {
	return 1 <= width && width <= maxWidth
}
