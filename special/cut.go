package special

import "shibboleth/fields"

// beginning tells the bytes with which both kinds of packets begin.
func beginning(mark byte, version int, to, from []byte) []byte {
	b := fields.Append([]byte{mark}, version, fields.VersionSize)
	b = append(append(b, byte(len(to))), to...)
	return append(append(b, byte(len(from))), from...)
}

// begun cuts what both kinds of packets begin with.
func begun(cut func(n int) []byte) (mark byte, version int, to, from []byte) {
	mark = cut(1)[0]
	version = number(cut)
	to = name(cut)
	from = name(cut)
	return mark, version, to, from
}

// cutting tells what cuts the next n bytes off b, and what tells how many are left.
// Behind the end it cuts 0s, so that it need not fail: less than none are left then.
func cutting(b []byte) (cut func(n int) []byte, left func() int) {
	at := 0
	cut = func(n int) []byte {
		part := make([]byte, n)
		copy(part, b[min(at, len(b)):])
		at += n
		return part
	}
	left = func() int { return len(b) - at }
	return cut, left
}

// number cuts a version.
func number(cut func(n int) []byte) int {
	v := 0
	for _, x := range [fields.VersionSize]byte(cut(fields.VersionSize)) {
		v = v<<8 | int(x)
	}
	return v
}

// name cuts a name behind the byte of its length.
func name(cut func(n int) []byte) []byte {
	return cut(int(cut(1)[0]))
}
