// Package varint is layer 1: numbers of one to eight bytes, and bytes behind their length.
package varint

import (
	"math/bits"

	"shibboleth/api"
)

// Size tells how many bytes a number has; 0, if n is no number.
func Size(n int) int {
	switch {
	case n < 0 || n >= 1<<62:
		return 0
	case n < 1<<6:
		return 1
	case n < 1<<14:
		return 2
	case n < 1<<30:
		return 4
	}
	return 8
}

// Append tells b and the bytes of n behind it; b alone, if n is no number.
func Append(b []byte, n int) []byte {
	size := Size(n)
	// Always new memory: the spare room behind b is its owner's.
	out := make([]byte, len(b)+size)
	copy(out, b)
	if size > 0 {
		put(out[len(b):], n)
	}
	return out
}

// Read tells the number with which b begins, and its size.
func Read(b []byte) (n, size int, e api.Errno) {
	if len(b) == 0 {
		return 0, 0, api.ErrShort
	}
	size = 1 << (b[0] >> 6)
	if len(b) < size {
		return 0, 0, api.ErrShort
	}
	n = get(b[:size])
	if Size(n) != size {
		return 0, 0, api.ErrForm
	}
	return n, size, api.OK
}

// Take tells the bytes that stand behind their length, and what stands behind them.
func Take(b []byte) (part, rest []byte, e api.Errno) {
	n, size, e := Read(b)
	if e != api.OK {
		return nil, nil, e
	}
	behind := b[size:]
	if n > len(behind) {
		return nil, nil, api.ErrShort
	}
	return clone(behind[:n]), clone(behind[n:]), api.OK
}

// Give tells b, the bytes of part's length, and part.
func Give(b, part []byte) []byte {
	return append(Append(b, len(part)), part...)
}

// put writes n into all of b, whose length is n's size.
func put(b []byte, n int) {
	for i := len(b) - 1; i >= 0; i-- {
		b[i] = byte(n)
		n >>= 8
	}
	// A number leaves the two highest bits of its size free: they tell the size's logarithm.
	b[0] |= byte(bits.TrailingZeros(uint(len(b)))) << 6
}

// get reads the number that all of b is.
func get(b []byte) int {
	n := int(b[0] & 0x3f)
	for _, x := range b[1:] {
		n = n<<8 | int(x)
	}
	return n
}

// clone tells the same bytes in new memory.
func clone(b []byte) []byte {
	c := make([]byte, len(b))
	copy(c, b)
	return c
}
