package header_test

import (
	"bytes"
	"math/rand/v2"
	"slices"
	"strings"
	"testing"

	"shibboleth/api"
	"shibboleth/header"
	"shibboleth/varint"
)

// name is a name of n bytes.
func name(n int) []byte {
	return []byte(strings.Repeat("n", n))
}

// plain is a right header of each kind, with all that its kind has.
func plain(kind int) header.Header {
	if kind == 3 {
		return header.Header{Kind: 3, To: []byte("shortone"), Phase: 1, Number: 258, Width: 2}
	}
	h := header.Header{Kind: kind, Version: 1, To: []byte("to"), From: []byte("from"), Number: 258, Width: 2}
	if kind == 0 {
		h.Token = []byte("tok")
	}
	return h
}

// but is a header that is changed.
func but(h header.Header, change func(h *header.Header)) header.Header {
	change(&h)
	return h
}

// same: are two headers alike, be an empty list nil or not?
func same(a, b header.Header) bool {
	return a.Kind == b.Kind && a.Version == b.Version && a.Phase == b.Phase && a.Number == b.Number && a.Width == b.Width &&
		bytes.Equal(a.To, b.To) && bytes.Equal(a.From, b.From) && bytes.Equal(a.Token, b.Token)
}

// right holds what Right tells, and whether Write writes.
func right(t *testing.T, want bool, what string, h header.Header) {
	t.Helper()
	if header.Right(h) != want {
		t.Errorf("P5.1: right is %t of %s: %+v", !want, what, h)
	}
	for _, n := range []int{0, 1, 1 << 14} {
		if b := header.Write(h, n); len(b) > 0 != want {
			t.Errorf("P5.1: ahead of %d bytes, of %s: %x", n, what, b)
		}
	}
}

func TestP5_1RightOfAllKinds(t *testing.T) {
	for kind := range 4 {
		h := plain(kind)
		right(t, true, "a plain one", h)
		for width, most := range map[int]int{1: 1<<8 - 1, 2: 1<<16 - 1, 3: 1<<24 - 1, 4: 1<<32 - 1} {
			for number, want := range map[int]bool{-1 << 63: false, -1: false, 0: true, 1: true, most: true, most + 1: false, 1<<63 - 1: false} {
				right(t, want, "a number of a width", but(h, func(h *header.Header) { h.Number, h.Width = number, width }))
			}
		}
		for _, width := range []int{-1 << 63, -1, 0, 5, 8, 1 << 60, 1<<63 - 1} {
			right(t, false, "a width", but(h, func(h *header.Header) { h.Number, h.Width = 0, width }))
		}
	}
	for _, kind := range []int{-1 << 63, -1, 4, 5, 256, 1<<63 - 1} {
		for old := range 4 {
			right(t, false, "another kind", but(plain(old), func(h *header.Header) { h.Kind = kind }))
		}
	}
	right(t, false, "the zero value", header.Header{})
}

func TestP5_1RightOfLongOnes(t *testing.T) {
	for kind := range 3 {
		h := plain(kind)
		for version, want := range map[int]bool{-1 << 63: false, -1: false, 0: false, 1: true, 2: true, 1<<32 - 1: true, 1 << 32: false, 1<<63 - 1: false} {
			right(t, want, "a version", but(h, func(h *header.Header) { h.Version = version }))
		}
		for n, want := range map[int]bool{0: true, 8: true, 20: true, 21: false, 256: false, 300: false} {
			right(t, want, "a name to which it goes", but(h, func(h *header.Header) { h.To = name(n) }))
			right(t, want, "a name from which it comes", but(h, func(h *header.Header) { h.From = name(n) }))
		}
		for n, want := range map[int]bool{0: true, 1: kind == 0, 64: kind == 0, 65: false, 1 << 14: false} {
			right(t, want, "a token", but(h, func(h *header.Header) { h.Token = name(n) }))
		}
		for _, phase := range []int{-1, 1, 2} {
			right(t, false, "a phase", but(h, func(h *header.Header) { h.Phase = phase }))
		}
		right(t, true, "nil lists", but(h, func(h *header.Header) { h.To, h.From, h.Token = nil, nil, nil }))
		right(t, true, "empty lists", but(h, func(h *header.Header) { h.To, h.From, h.Token = []byte{}, []byte{}, []byte{} }))
	}
}

func TestP5_1RightOfShortOnes(t *testing.T) {
	h := plain(3)
	for n := range 22 {
		right(t, n == 8, "a name", but(h, func(h *header.Header) { h.To = name(n) }))
	}
	for phase, want := range map[int]bool{-1: false, 0: true, 1: true, 2: false, 4: false, 1 << 60: false} {
		right(t, want, "a phase", but(h, func(h *header.Header) { h.Phase = phase }))
	}
	right(t, true, "empty lists", but(h, func(h *header.Header) { h.From, h.Token = []byte{}, []byte{} }))
	right(t, false, "a version", but(h, func(h *header.Header) { h.Version = 1 }))
	right(t, false, "a version below 0", but(h, func(h *header.Header) { h.Version = -1 }))
	right(t, false, "a name from which it comes", but(h, func(h *header.Header) { h.From = name(1) }))
	right(t, false, "a token", but(h, func(h *header.Header) { h.Token = name(1) }))
}

func TestP5_1WriteTellsBytes(t *testing.T) {
	for _, x := range []struct {
		h    header.Header
		n    int
		want string
	}{
		{plain(0), 3, "\xc1\x00\x00\x00\x01\x02to\x04from\x03tok\x05\x01\x02"},
		{plain(1), 3, "\xd1\x00\x00\x00\x01\x02to\x04from\x05\x01\x02"},
		{plain(2), 3, "\xe1\x00\x00\x00\x01\x02to\x04from\x05\x01\x02"},
		{plain(3), 3, "\x45shortone\x01\x02"},
		{but(plain(3), func(h *header.Header) { h.Phase = 0 }), 0, "\x41shortone\x01\x02"},
		{but(plain(3), func(h *header.Header) { h.Number, h.Width = 1, 4 }), 1 << 14, "\x47shortone\x00\x00\x00\x01"},
		{but(plain(3), func(h *header.Header) { h.Number, h.Width, h.Phase = 255, 1, 0 }), 1, "\x40shortone\xff"},
		{but(plain(0), func(h *header.Header) { h.Number, h.Width = 1<<32-1, 4 }), 0, "\xc3\x00\x00\x00\x01\x02to\x04from\x03tok\x04\xff\xff\xff\xff"},
		{header.Header{Version: 0x01020304, Number: 7, Width: 1}, 0, "\xc0\x01\x02\x03\x04\x00\x00\x00\x01\x07"},
		{header.Header{Kind: 1, Version: 1<<32 - 1, Number: 0x010203, Width: 3}, 60, "\xd2\xff\xff\xff\xff\x00\x00\x3f\x01\x02\x03"},
		{header.Header{Kind: 1, Version: 1, Number: 0x010203, Width: 3}, 61, "\xd2\x00\x00\x00\x01\x00\x00\x40\x40\x01\x02\x03"},
		{header.Header{Kind: 2, Version: 1, To: name(20), From: name(8), Number: 0, Width: 1}, 1<<14 - 2, "\xe0\x00\x00\x00\x01\x14" + string(name(20)) + "\x08" + string(name(8)) + "\x7f\xff\x00"},
		{header.Header{Kind: 2, Version: 1, Number: 0, Width: 4}, 1 << 14, "\xe3\x00\x00\x00\x01\x00\x00\x80\x00\x40\x04\x00\x00\x00\x00"},
		{header.Header{Version: 1, Token: name(63), Width: 1}, 0, "\xc0\x00\x00\x00\x01\x00\x00\x3f" + string(name(63)) + "\x01\x00"},
		{header.Header{Version: 1, Token: name(64), Width: 1}, 0, "\xc0\x00\x00\x00\x01\x00\x00\x40\x40" + string(name(64)) + "\x01\x00"},
	} {
		if b := header.Write(x.h, x.n); string(b) != x.want {
			t.Errorf("P5.1: %+v ahead of %d: %x, not %x", x.h, x.n, b, x.want)
		}
	}
}

func TestP5_1WriteOfWrongBodies(t *testing.T) {
	for kind := range 4 {
		for _, n := range []int{-1 << 63, -2, -1, 1<<14 + 1, 1 << 16, 1 << 62, 1<<63 - 1} {
			if b := header.Write(plain(kind), n); len(b) != 0 {
				t.Errorf("P5.1: the kind %d ahead of %d: %x", kind, n, b)
			}
		}
	}
}

// reads holds what Read tells against what it has to tell.
func reads(t *testing.T, b []byte, want header.Header, size, end int, e api.Errno) {
	t.Helper()
	h, gotSize, gotEnd, gotE := header.Read(b)
	if !same(h, want) || gotSize != size || gotEnd != end || gotE != e {
		t.Errorf("%.60x: %+v, %d, %d, %d, not %+v, %d, %d, %d", b, h, gotSize, gotEnd, gotE, want, size, end, e)
	}
}

func TestP5_1ReadOfAllFirstBytes(t *testing.T) {
	for first := range 256 {
		b := append([]byte{byte(first)}, "\x00\x00\x00\x01\x00\x00\x00\x04\x00\x00\x00\x00\x00"...)
		_, _, _, e := header.Read(b)
		_, _, _, alone := header.Read(b[:1])
		var want, cut api.Errno
		switch {
		case 0x40 <= first && first <= 0x47, 0xc0 <= first && first <= 0xc3:
			cut = api.ErrShort
		case 0xd0 <= first && first <= 0xd3, 0xe0 <= first && first <= 0xe3:
			// These have no token: the next byte 0 is a length that is less than the width.
			want, cut = api.ErrForm, api.ErrShort
		default:
			want, cut = api.ErrForm, api.ErrForm
		}
		if e != want || alone != cut {
			t.Errorf("P5.1: the first byte %x: %d, and alone %d, not %d, %d", first, e, alone, want, cut)
		}
	}
}

func TestP5_1ReadCutShort(t *testing.T) {
	reads(t, nil, header.Header{}, 0, 0, api.ErrShort)
	reads(t, []byte{}, header.Header{}, 0, 0, api.ErrShort)
	for kind := range 4 {
		h := plain(kind)
		for _, n := range []int{0, 5, 100} {
			b := append(header.Write(h, n), make([]byte, n)...)
			size, whole := len(b)-n, len(b)
			for many := range whole {
				// Of a short one the body ends where the bytes do.
				if kind == 3 && many >= size {
					reads(t, b[:many], h, size, many, api.OK)
				} else {
					reads(t, b[:many], header.Header{}, 0, 0, api.ErrShort)
				}
			}
			reads(t, b, h, size, whole, api.OK)
		}
	}
}

func TestP5_1ReadErrors(t *testing.T) {
	long := "\x00\x00\x00\x01"
	for _, x := range []struct {
		b string
		e api.Errno
	}{
		// The first byte.
		{"\xf0", api.ErrForm}, {"\xf3" + long, api.ErrForm}, {"\xc4" + long, api.ErrForm}, {"\x48", api.ErrForm}, {"\x00", api.ErrForm}, {"\x80\x00\x00\x00\x00", api.ErrForm},
		// The version.
		{"\xc0\x00\x00\x00", api.ErrShort}, {"\xc0\x00\x00\x00\x00", api.ErrForm}, {"\xd0\x00\x00\x00\x00\x15", api.ErrForm},
		// The names: 21 is too long, whatever follows, and as much as it likes.
		{"\xc0" + long, api.ErrShort}, {"\xc0" + long + "\x14" + string(name(19)), api.ErrShort},
		{"\xc0" + long + "\x15", api.ErrLong}, {"\xe0" + long + "\x15" + string(name(21)) + "\x00\x01\x00", api.ErrLong}, {"\xe0" + long + "\xff", api.ErrLong},
		{"\xc0" + long + "\x00", api.ErrShort}, {"\xc0" + long + "\x00\x14" + string(name(19)), api.ErrShort},
		{"\xc0" + long + "\x00\x15", api.ErrLong}, {"\xd0" + long + "\x01a\x15" + string(name(21)) + "\x01\x00", api.ErrLong},
		{"\xd0" + long + "\x02a\x15", api.ErrShort},
		// The token: its length's bytes, how they are written, how great it is, then its bytes.
		{"\xc0" + long + "\x00\x00", api.ErrShort}, {"\xc0" + long + "\x00\x00\x40", api.ErrShort}, {"\xc0" + long + "\x00\x00\xff\xff\xff\xff\xff\xff\xff", api.ErrShort},
		{"\xc0" + long + "\x00\x00\x40\x01", api.ErrForm}, {"\xc0" + long + "\x00\x00\x80\x00\x00\x41", api.ErrForm}, {"\xc0" + long + "\x00\x00\x40\x00\x01\x00", api.ErrForm},
		{"\xc0" + long + "\x00\x00\x40\x41", api.ErrLong}, {"\xc0" + long + "\x00\x00\x40\x41" + string(name(65)) + "\x01\x00", api.ErrLong}, {"\xc0" + long + "\x00\x00\xff\xff\xff\xff\xff\xff\xff\xff", api.ErrLong},
		{"\xc0" + long + "\x00\x00\x40\x40" + string(name(63)), api.ErrShort}, {"\xc0" + long + "\x00\x00\x02a", api.ErrShort},
		// The length.
		{"\xc0" + long + "\x00\x00\x00", api.ErrShort}, {"\xe0" + long + "\x00\x00", api.ErrShort}, {"\xe0" + long + "\x00\x00\x80\x00\x00", api.ErrShort},
		{"\xe0" + long + "\x00\x00\x40\x01\x00", api.ErrForm}, {"\xe0" + long + "\x00\x00\x80\x00\x3f\xff", api.ErrForm}, {"\xe0" + long + "\x00\x00\x40\x09", api.ErrForm},
		{"\xe0" + long + "\x00\x00\x00", api.ErrForm}, {"\xe1" + long + "\x00\x00\x01\x00\x00", api.ErrForm}, {"\xe3" + long + "\x00\x00\x03\x00\x00\x00\x00", api.ErrForm}, {"\xe3" + long + "\x00\x00\x03", api.ErrForm},
		{"\xe3" + long + "\x00\x00\x04\x00\x00\x00", api.ErrShort}, {"\xe0" + long + "\x00\x00\x03\x01\x00", api.ErrShort}, {"\xe0" + long + "\x00\x00\x01", api.ErrShort}, {"\xe0" + long + "\x00\x00\xff\xff\xff\xff\xff\xff\xff\xff\x00", api.ErrShort},
		// A short one.
		{"\x40", api.ErrShort}, {"\x40shorton", api.ErrShort}, {"\x40shortone", api.ErrShort}, {"\x47shortone\x00\x00\x00", api.ErrShort},
	} {
		reads(t, []byte(x.b), header.Header{}, 0, 0, x.e)
	}
}

func TestP5_1ReadTellsSizeAndEnd(t *testing.T) {
	reads(t, []byte("\xc1\x00\x00\x00\x01\x02to\x04from\x03tok\x05\x01\x02bodynext"), plain(0), 20, 23, api.OK)
	reads(t, []byte("\xe1\x00\x00\x00\x01\x02to\x04from\x02\x01\x02next"), plain(2), 16, 16, api.OK)
	reads(t, []byte("\x45shortone\x01\x02bodynext"), plain(3), 11, 19, api.OK)
	reads(t, []byte("\x45shortone\x01\x02"), plain(3), 11, 11, api.OK)
	// The body of what is read may be longer than one that is written.
	b := append([]byte("\xe0\x00\x00\x00\x01\x00\x00\x80\x01\x00\x01\x09"), make([]byte, 1<<16+5)...)
	reads(t, b, header.Header{Kind: 2, Version: 1, Number: 9, Width: 1}, 12, 12+1<<16, api.OK)
}

// random is a right header.
func random(r *rand.Rand) header.Header {
	width := 1 + r.IntN(4)
	h := header.Header{Kind: r.IntN(4), Number: r.IntN(1 << (8 * width)), Width: width}
	if h.Kind == 3 {
		h.To, h.Phase = filled(r, 8), r.IntN(2)
		return h
	}
	h.Version, h.To, h.From = 1+r.IntN(1<<32-1), filled(r, r.IntN(21)), filled(r, r.IntN(21))
	if h.Kind == 0 {
		h.Token = filled(r, r.IntN(65))
	}
	return h
}

// filled is n bytes, whichever.
func filled(r *rand.Rand, n int) []byte {
	b := make([]byte, n)
	for i := range b {
		b[i] = byte(r.Uint32())
	}
	return b
}

// told is what the document says that Read tells, field by field.
func told(b []byte) (h header.Header, size, end int, e api.Errno) {
	rest := b
	cut := func(n int) string {
		if e != api.OK || len(rest) < n {
			e = firstOf(e, api.ErrShort)
			return strings.Repeat("\x01", min(n, 64))
		}
		part := rest[:n]
		rest = rest[n:]
		return string(part)
	}
	number := func(s string) (n int) {
		for _, x := range []byte(s) {
			n = 256*n + int(x)
		}
		return n
	}
	length := func() int {
		n, size, fault := varint.Read(rest)
		e = firstOf(e, fault)
		if e == api.OK {
			rest = rest[size:]
		}
		return n
	}
	must := func(is bool, fault api.Errno) {
		if !is {
			e = firstOf(e, fault)
		}
	}
	first := cut(1)[0]
	must(first >= 0x40 && first <= 0x47 || first >= 0xc0 && first < 0xf0 && first%16 < 4, api.ErrForm)
	h.Width = int(first)%4 + 1
	if first < 0x80 {
		h.Kind, h.Phase, h.To = 3, int(first)/4%2, []byte(cut(8))
		h.Number = number(cut(h.Width))
		return h, len(b) - len(rest), len(b), e
	}
	h.Kind = int(first) / 16 % 4
	h.Version = number(cut(4))
	must(h.Version > 0, api.ErrForm)
	for _, to := range []*[]byte{&h.To, &h.From} {
		n := number(cut(1))
		must(n <= 20, api.ErrLong)
		*to = []byte(cut(n))
	}
	if h.Kind == 0 {
		n := length()
		must(n <= 64, api.ErrLong)
		h.Token = []byte(cut(n))
	}
	n := length()
	must(n >= h.Width, api.ErrForm)
	must(n <= len(rest), api.ErrShort)
	end = len(b) - len(rest) + n
	h.Number = number(cut(h.Width))
	return h, len(b) - len(rest), end, e
}

// firstOf is the first of two errors that is one.
func firstOf(a, b api.Errno) api.Errno {
	if a != api.OK {
		return a
	}
	return b
}

// What is read of headers, whole, or changed a little, is what the document says.
func TestP5_1ReadOfRandomBytes(t *testing.T) {
	r := rand.New(rand.NewPCG(5, 1))
	counts := map[api.Errno]int{}
	for range 200000 {
		n := r.IntN(20)
		b := append(header.Write(random(r), n), filled(r, r.IntN(n+3))...)
		for range r.IntN(4) {
			switch i := r.IntN(len(b)); r.IntN(3) {
			case 0:
				b[i] = byte(r.Uint32())
			case 1:
				b[i] ^= 1 << r.IntN(8)
			default:
				b = b[:i+1]
			}
		}
		h, size, end, e := told(b)
		counts[e]++
		if e != api.OK {
			h, size, end = header.Header{}, 0, 0
		}
		reads(t, b, h, size, end, e)
	}
	for _, e := range []api.Errno{api.OK, api.ErrShort, api.ErrForm, api.ErrLong} {
		if counts[e] < 1000 {
			t.Errorf("P5.1: only %d of the error %d", counts[e], e)
		}
	}
}

// packet is a header's bytes, and a body.
func packet(h header.Header, body string) string {
	return string(header.Write(h, len(body))) + body
}

// splits holds what Split tells: packets, one behind the other in the list, then an error.
func splits(t *testing.T, b string, e api.Errno, want ...header.Packet) {
	t.Helper()
	l, gotE := header.Split([]byte(b))
	alike := func(p, q header.Packet) bool {
		return same(p.Header, q.Header) && bytes.Equal(p.Head, q.Head) && bytes.Equal(p.Body, q.Body)
	}
	if gotE != e || !slices.EqualFunc(l, want, alike) {
		t.Errorf("P5.2: %x: %+v, %d, not %+v, %d", b, l, gotE, want, e)
	}
}

func TestP5_2Split(t *testing.T) {
	var b string
	var want []header.Packet
	splits(t, "", api.OK)
	for i, kind := range []int{0, 1, 2, 0, 2, 2, 3} {
		h, body := plain(kind), strings.Repeat("b", i*20%50)
		b += packet(h, body)
		want = append(want, header.Packet{Header: h, Head: header.Write(h, len(body)), Body: []byte(body)})
		splits(t, b, api.OK, want...)
		if kind != 3 {
			splits(t, b+"\xf0", api.ErrForm, want...)
			splits(t, b+"\x40", api.ErrShort, want...)
			splits(t, b+"\x00", api.ErrForm, want...)
			splits(t, b+"\xd0\x00\x00\x00\x01\x15", api.ErrLong, want...)
			splits(t, b+"\xd0\x00\x00\x00\x01\x15"+packet(h, "behind"), api.ErrLong, want...)
			splits(t, b+packet(h, "cut")[:10], api.ErrShort, want...)
		}
	}
}

// Of a short one the body ends with the datagram.
func TestP5_2SplitOfShortOnes(t *testing.T) {
	h, behind := plain(3), packet(plain(0), "behind")
	splits(t, packet(h, behind), api.OK, header.Packet{Header: h, Head: header.Write(h, 0), Body: []byte(behind)})
	splits(t, packet(h, "\x00"), api.OK, header.Packet{Header: h, Head: header.Write(h, 0), Body: []byte("\x00")})
}

func TestP5_2SplitOfMany(t *testing.T) {
	one := packet(header.Header{Kind: 1, Version: 1, Width: 1}, "")
	l, e := header.Split([]byte(strings.Repeat(one, 100000) + "\xff"))
	if len(l) != 100000 || e != api.ErrForm {
		t.Errorf("P5.2: %d packets, %d", len(l), e)
	}
}

func TestP5_3WhatIsWrittenIsRead(t *testing.T) {
	r := rand.New(rand.NewPCG(5, 3))
	for i := range 20000 {
		h, n := random(r), r.IntN(100)
		if i%100 == 0 {
			n = []int{0, 1, 1<<14 - 5, 1<<14 - 1, 1 << 14}[r.IntN(5)]
		}
		head, body := header.Write(h, n), filled(r, n)
		all := append(slices.Clone(head), body...)
		reads(t, all, h, len(head), len(all), api.OK)
		splits(t, string(all), api.OK, header.Packet{Header: h, Head: head, Body: body})
		if h.Kind != 3 {
			reads(t, append(all, "behind"...), h, len(head), len(all), api.OK)
		}
	}
}

func TestR4ArgumentsStay(t *testing.T) {
	room := func(s string) []byte { return append([]byte(s), "............"...)[:len(s)] }
	h := header.Header{Version: 1, To: room("to"), From: room("from"), Token: room("token"), Width: 1}
	header.Right(h)
	b := header.Write(h, 0)
	for _, x := range [][]byte{h.To, h.From, h.Token} {
		if string(x[len(x):len(x)+12]) != "............" {
			t.Errorf("R4: the room behind %q is %q", x, x[len(x):len(x)+12])
		}
	}
	if string(h.To) != "to" || string(h.From) != "from" || string(h.Token) != "token" {
		t.Errorf("R4: %+v", h)
	}
	was := slices.Clone(b)
	header.Read(b)
	header.Split(b)
	if !bytes.Equal(b, was) {
		t.Errorf("R4: Read or Split made %x of %x", b, was)
	}
}

func TestR4AnswersAreNew(t *testing.T) {
	b := []byte(packet(plain(0), "body") + packet(plain(3), "last"))
	h, _, _, _ := header.Read(b)
	l, _ := header.Split(b)
	clear(b)
	if !same(h, plain(0)) || !same(l[0].Header, plain(0)) || string(l[0].Body) != "body" || string(l[1].Body) != "last" || l[0].Head[0] != 0xc1 || l[1].Head[0] != 0x45 {
		t.Errorf("R4: what was told is the argument's: %+v, %+v", h, l)
	}
	grown := [][]byte{h.To, h.From, h.Token}
	for _, p := range l {
		grown = append(grown, p.Head, p.Body, p.Header.To, p.Header.From, p.Header.Token)
	}
	for i, x := range grown {
		was := joined(grown[i+1:])
		_ = append(x, "xxxxxxxxxxxxxxxx"...)
		clear(x)
		if joined(grown[i+1:]) != was {
			t.Errorf("R4: two of what is told share memory: %d", i)
		}
	}
}

// joined is all lists, one behind the other.
func joined(l [][]byte) string {
	return string(bytes.Join(l, []byte("|")))
}
