// Package fields takes bytes apart, field by field, and writes numbers of a fixed size, versions among them, for each layer whose bytes are made of such.
package fields

import (
	"slices"

	"shibboleth/api"
	"shibboleth/varint"
)

// VersionSize is how many bytes a version has.
const VersionSize = 4

// Reader takes fields off the front of bytes. A field that can't be taken is a panic of an api.Errno: who reads recovers it once, for all fields.
type Reader struct {
	rest  []byte
	taken int
	short api.Errno
}

// Of is a reader that has taken nothing of b yet; short is the error where b ends too early.
func Of(b []byte, short api.Errno) *Reader {
	return &Reader{rest: b, short: short}
}

// Want panics with e, if something that has to be is not.
func Want(is bool, e api.Errno) {
	if !is {
		panic(e)
	}
}

// Taken tells how many bytes are taken.
func (r *Reader) Taken() int {
	return r.taken
}

// Left tells how many bytes are not taken yet.
func (r *Reader) Left() int {
	return len(r.rest)
}

// Bytes takes n bytes, and tells them in new memory.
func (r *Reader) Bytes(n int) []byte {
	return slices.Clone(r.cut(n))
}

// Fixed takes a number of so many bytes, the greatest first.
func (r *Reader) Fixed(size int) int {
	n := 0
	for _, x := range r.cut(size) {
		n = n<<8 | int(x)
	}
	return n
}

// Number takes a number of layer 1.
func (r *Reader) Number() int {
	n, size, e := varint.Read(r.rest)
	Want(e != api.ErrShort, r.short)
	Want(e == api.OK, e)
	r.cut(size)
	return n
}

// Run takes all bytes up to the first one that is not x, and tells how many they are.
func (r *Reader) Run(x byte) int {
	n := 0
	for n < len(r.rest) && r.rest[n] == x {
		n++
	}
	r.cut(n)
	return n
}

// cut takes n bytes where they are.
func (r *Reader) cut(n int) []byte {
	Want(n <= len(r.rest), r.short)
	b := r.rest[:n]
	r.rest = r.rest[n:]
	r.taken += n
	return b
}

// Append tells b and n behind it, in so many bytes, the greatest first; it may use the room behind b.
func Append(b []byte, n, size int) []byte {
	for i := size - 1; i >= 0; i-- {
		b = append(b, byte(n>>(8*i)))
	}
	return b
}

// Fits: has n room in so many bytes (at most seven)?
func Fits(n, size int) bool {
	return n >= 0 && n < 1<<(8*size)
}

// IsVersion: may it be a version?
func IsVersion(n int) bool {
	return n > 0 && Fits(n, VersionSize)
}
