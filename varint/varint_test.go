package varint_test

import (
	"bytes"
	"testing"

	"shibboleth/api"
	"shibboleth/varint"
)

// borders are numbers at both sides of each size's border, with their sizes; 0 is the size of what is no number.
var borders = []struct{ n, size int }{
	{-1 << 63, 0}, {-1 << 62, 0}, {-64, 0}, {-1, 0},
	{0, 1}, {1, 1}, {62, 1}, {1<<6 - 1, 1},
	{1 << 6, 2}, {1<<6 + 1, 2}, {255, 2}, {256, 2}, {1<<14 - 1, 2},
	{1 << 14, 4}, {1<<14 + 1, 4}, {1<<16 - 1, 4}, {1 << 24, 4}, {1<<30 - 1, 4},
	{1 << 30, 8}, {1<<30 + 1, 8}, {1<<32 - 1, 8}, {1 << 32, 8}, {1 << 61, 8}, {1<<62 - 2, 8}, {1<<62 - 1, 8},
	{1 << 62, 0}, {1<<62 + 1, 0}, {1<<63 - 1, 0},
}

func TestP1_1SizeAtBorders(t *testing.T) {
	for _, x := range borders {
		if got := varint.Size(x.n); got != x.size {
			t.Errorf("Size(%d): %d, not %d", x.n, got, x.size)
		}
	}
}

func TestP1_1AppendTellsBytes(t *testing.T) {
	for _, x := range []struct {
		n    int
		want string
	}{
		{0, "\x00"},
		{63, "\x3f"},
		{64, "\x40\x40"},
		{258, "\x41\x02"},
		{1<<14 - 1, "\x7f\xff"},
		{1 << 14, "\x80\x00\x40\x00"},
		{0x01020304, "\x81\x02\x03\x04"},
		{1<<30 - 1, "\xbf\xff\xff\xff"},
		{1 << 30, "\xc0\x00\x00\x00\x40\x00\x00\x00"},
		{0x0102030405060708, "\xc1\x02\x03\x04\x05\x06\x07\x08"},
		{1<<62 - 1, "\xff\xff\xff\xff\xff\xff\xff\xff"},
	} {
		for _, ahead := range []string{"", "a", "ahead"} {
			if got := varint.Append([]byte(ahead), x.n); string(got) != ahead+x.want {
				t.Errorf("Append(%q, %d): %x", ahead, x.n, got)
			}
		}
	}
}

func TestP1_1AppendOfNoNumber(t *testing.T) {
	for _, n := range []int{-1, -1 << 63, 1 << 62, 1<<63 - 1} {
		if got := varint.Append([]byte("ahead"), n); string(got) != "ahead" {
			t.Errorf("Append(ahead, %d): %x", n, got)
		}
		if got := varint.Append(nil, n); len(got) != 0 {
			t.Errorf("Append(nil, %d): %x", n, got)
		}
	}
}

// reads holds what Read tells against what it has to tell.
func reads(t *testing.T, b []byte, n, size int, e api.Errno) {
	t.Helper()
	gotN, gotSize, gotE := varint.Read(b)
	if gotN != n || gotSize != size || gotE != e {
		t.Errorf("Read(%x): %d, %d, %d, not %d, %d, %d", b, gotN, gotSize, gotE, n, size, e)
	}
}

func TestP1_1ReadTooShort(t *testing.T) {
	reads(t, nil, 0, 0, api.ErrShort)
	reads(t, []byte{}, 0, 0, api.ErrShort)
	for first, size := range map[byte]int{0x40: 2, 0x7f: 2, 0x80: 4, 0xbf: 4, 0xc0: 8, 0xff: 8} {
		// All lengths that are too few, and whatever else: that a smaller size would do is told later.
		for many := 1; many < size; many++ {
			b := make([]byte, many, 16)
			b[0] = first
			reads(t, b, 0, 0, api.ErrShort)
		}
	}
}

func TestP1_1ReadLongerThanNeeded(t *testing.T) {
	reads(t, []byte{0x40, 0x01}, 0, 0, api.ErrForm)
	reads(t, []byte{0x40, 0x3f}, 0, 0, api.ErrForm)
	reads(t, []byte{0x40, 0x40}, 64, 2, api.OK)
	reads(t, []byte{0x80, 0, 0, 0}, 0, 0, api.ErrForm)
	reads(t, []byte{0x80, 0, 0x3f, 0xff}, 0, 0, api.ErrForm)
	reads(t, []byte{0x80, 0, 0x40, 0}, 1<<14, 4, api.OK)
	reads(t, []byte{0xc0, 0, 0, 0, 0, 0, 0, 0}, 0, 0, api.ErrForm)
	reads(t, []byte{0xc0, 0, 0, 0, 0x3f, 0xff, 0xff, 0xff}, 0, 0, api.ErrForm)
	reads(t, []byte{0xc0, 0, 0, 0, 0x40, 0, 0, 0}, 1<<30, 8, api.OK)
	reads(t, []byte{0x40, 0x01, 9, 9}, 0, 0, api.ErrForm)
}

func TestP1_1ReadOfAllFirstTwoBytes(t *testing.T) {
	for i := range 1 << 16 {
		b := []byte{byte(i >> 8), byte(i), 0, 0, 0, 0, 0, 0, 9}
		low := i & 0x3fff
		switch {
		case b[0] < 0x40:
			reads(t, b, int(b[0]), 1, api.OK)
		case b[0] < 0x80 && low < 64:
			reads(t, b, 0, 0, api.ErrForm)
		case b[0] < 0x80:
			reads(t, b, low, 2, api.OK)
		case low == 0:
			reads(t, b, 0, 0, api.ErrForm)
		case b[0] < 0xc0:
			reads(t, b, low<<16, 4, api.OK)
		default:
			reads(t, b, low<<48, 8, api.OK)
		}
	}
}

func TestP1_2GiveAndTake(t *testing.T) {
	for _, x := range []struct {
		many   int
		length string
	}{
		{0, "\x00"}, {1, "\x01"}, {63, "\x3f"}, {64, "\x40\x40"}, {1<<14 - 1, "\x7f\xff"}, {1 << 14, "\x80\x00\x40\x00"},
	} {
		part := bytes.Repeat([]byte("p"), x.many)
		for _, ahead := range []string{"", "ahead"} {
			if got := varint.Give([]byte(ahead), part); string(got) != ahead+x.length+string(part) {
				t.Errorf("Give(%q, %d bytes): %d bytes", ahead, x.many, len(got))
			}
		}
		for _, behind := range []string{"", "b", "behind"} {
			got, rest, e := varint.Take([]byte(x.length + string(part) + behind))
			if string(got) != string(part) || string(rest) != behind || e != api.OK {
				t.Errorf("Take of %d bytes and %q: %d bytes, %q, %d", x.many, behind, len(got), rest, e)
			}
		}
	}
}

func TestP1_2TakeErrors(t *testing.T) {
	for _, x := range []struct {
		b string
		e api.Errno
	}{
		{"", api.ErrShort},
		{"\x40", api.ErrShort},
		{"\x80\x00\x40", api.ErrShort},
		{"\x40\x01", api.ErrForm},
		{"\x40\x01p", api.ErrForm},
		{"\x40\x09p", api.ErrForm},
		{"\x80\x00\x00\x02pp", api.ErrForm},
		{"\x01", api.ErrShort},
		{"\x03pp", api.ErrShort},
		{"\x40\x40" + string(make([]byte, 63)), api.ErrShort},
		{"\xff\xff\xff\xff\xff\xff\xff\xffppp", api.ErrShort},
	} {
		part, rest, e := varint.Take([]byte(x.b))
		if len(part) != 0 || len(rest) != 0 || e != x.e {
			t.Errorf("Take(%x): %x, %x, %d, not %d", x.b, part, rest, e, x.e)
		}
	}
}

// rising goes through numbers of all sizes: each power of two, and what is near it.
func rising(yield func(int) bool) {
	for i := range 62 {
		for _, d := range []int{-3, -1, 0, 1, 5} {
			if n := 1<<i + d; n >= 0 && !yield(n) {
				return
			}
		}
	}
	yield(1<<62 - 1)
}

func TestP1_3WhatIsAppendedIsRead(t *testing.T) {
	for n := range rising {
		for _, behind := range []string{"", "\x00", "\xff", "behind"} {
			b := append(varint.Append(nil, n), behind...)
			reads(t, b, n, varint.Size(n), api.OK)
		}
	}
}

func TestP1_3RowsOfPartsAreTaken(t *testing.T) {
	parts := [][]byte{nil, {1}, make([]byte, 63), make([]byte, 64), make([]byte, 1<<14), {0xff}}
	var b []byte
	for _, part := range parts {
		b = varint.Give(b, part)
	}
	for i, want := range parts {
		part, rest, e := varint.Take(b)
		if !bytes.Equal(part, want) || e != api.OK {
			t.Fatalf("part %d: %d bytes, %d", i, len(part), e)
		}
		b = rest
	}
	if len(b) != 0 {
		t.Errorf("%d bytes too many", len(b))
	}
}

// roomy is a list with spare room behind it, filled with 0xee.
func roomy(b string) []byte {
	all := bytes.Repeat([]byte{0xee}, len(b)+64)
	copy(all, b)
	return all[:len(b)]
}

// untouched: is a list of roomy as it was, and its spare room?
func untouched(b []byte, was string) bool {
	return string(b) == was && bytes.Equal(b[len(b):len(b)+64], bytes.Repeat([]byte{0xee}, 64))
}

func TestR4ArgumentsStay(t *testing.T) {
	b, part := roomy("ahead"), roomy("part")
	for _, n := range []int{-1, 1, 1 << 6, 1 << 14, 1<<62 - 1} {
		varint.Append(b, n)
	}
	varint.Give(b, part)
	if !untouched(b, "ahead") || !untouched(part, "part") {
		t.Error("Append or Give wrote into what was handed in")
	}
	whole := roomy("\x04partrest")
	varint.Read(whole)
	varint.Take(whole)
	if !untouched(whole, "\x04partrest") {
		t.Error("Read or Take wrote into what was handed in")
	}
}

func TestR4AnswersAreNew(t *testing.T) {
	b := roomy("ahead")
	none, one, given := varint.Append(b, -1), varint.Append(b, 1), varint.Give(b, nil)
	b[0] = 'x'
	if string(none) != "ahead" || string(one) != "ahead\x01" || string(given) != "ahead\x00" {
		t.Error("Append or Give handed out what was handed in")
	}
	whole := []byte("\x04partrest")
	part, rest, _ := varint.Take(whole)
	whole[1], whole[5] = 'x', 'x'
	if string(part) != "part" || string(rest) != "rest" {
		t.Error("Take handed out what was handed in")
	}
	grown := append(part, "xxxx"...)
	if string(rest) != "rest" || string(grown) != "partxxxx" {
		t.Error("Take's answers share memory")
	}
}
