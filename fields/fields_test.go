package fields_test

import (
	"bytes"
	"testing"

	"shibboleth/api"
	"shibboleth/fields"
)

// fault tells the error with which a call panics; OK, if it does not.
func fault(call func()) (e api.Errno) {
	defer func() {
		if x := recover(); x != nil {
			e = x.(api.Errno)
		}
	}()
	call()
	return api.OK
}

func TestFieldsAreTakenInOrder(t *testing.T) {
	r := fields.Of([]byte("\x01\x02ab\x40\x40\x00\x00\x00c"), api.ErrShort)
	if n := r.Fixed(2); n != 258 {
		t.Errorf("fixed: %d", n)
	}
	if b := r.Bytes(2); string(b) != "ab" {
		t.Errorf("bytes: %q", b)
	}
	if n := r.Number(); n != 64 {
		t.Errorf("number: %d", n)
	}
	if r.Taken() != 6 || r.Left() != 4 {
		t.Errorf("%d are taken, %d left", r.Taken(), r.Left())
	}
	if n := r.Run(0); n != 3 {
		t.Errorf("run: %d", n)
	}
	if n := r.Run(0); n != 0 {
		t.Errorf("no run: %d", n)
	}
	if b := r.Bytes(1); string(b) != "c" || len(r.Bytes(0)) != 0 || r.Run(0) != 0 {
		t.Errorf("the last byte: %q", b)
	}
	if r.Taken() != 10 || r.Left() != 0 {
		t.Errorf("%d are taken, %d left", r.Taken(), r.Left())
	}
}

func TestFieldsThatAreNot(t *testing.T) {
	for _, short := range []api.Errno{api.ErrShort, api.ErrForm} {
		for b, take := range map[string]func(*fields.Reader){
			"":                     func(r *fields.Reader) { r.Fixed(1) },
			"\x01\x02\x03":         func(r *fields.Reader) { r.Fixed(4) },
			"ab":                   func(r *fields.Reader) { r.Bytes(3) },
			"b":                    func(r *fields.Reader) { r.Bytes(1<<62 - 1) },
			"\x40":                 func(r *fields.Reader) { r.Number() },
			"\xc0\x00\x00\x00\x00": func(r *fields.Reader) { r.Number() },
		} {
			if e := fault(func() { take(fields.Of([]byte(b), short)) }); e != short {
				t.Errorf("%x: %d, not %d", b, e, short)
			}
		}
		if e := fault(func() { fields.Of([]byte("\x40\x01"), short).Number() }); e != api.ErrForm {
			t.Errorf("a number that is not written shortest: %d", e)
		}
	}
	if e := fault(func() { fields.Want(true, api.ErrLong) }); e != api.OK {
		t.Errorf("what has to be and is: %d", e)
	}
	if e := fault(func() { fields.Want(false, api.ErrLong) }); e != api.ErrLong {
		t.Errorf("what has to be and is not: %d", e)
	}
}

func TestBytesAreNew(t *testing.T) {
	b := []byte("abcd")
	got := fields.Of(b, api.ErrShort).Bytes(2)
	b[0] = 'x'
	if string(append(got, "yy"...)) != "abyy" || string(b) != "xbcd" {
		t.Errorf("%q of %q", got, b)
	}
}

func TestAppend(t *testing.T) {
	for _, x := range []struct {
		n, size int
		want    string
	}{{0, 1, "\x00"}, {255, 1, "\xff"}, {258, 2, "\x01\x02"}, {258, 4, "\x00\x00\x01\x02"}, {1<<32 - 1, 4, "\xff\xff\xff\xff"}, {1<<56 + 2, 8, "\x01\x00\x00\x00\x00\x00\x00\x02"}} {
		if b := fields.Append([]byte("a"), x.n, x.size); !bytes.Equal(b, []byte("a"+x.want)) {
			t.Errorf("%d in %d bytes: %x", x.n, x.size, b)
		}
	}
}

func TestFits(t *testing.T) {
	for size := range 8 {
		most := 1<<(8*size) - 1
		for n, want := range map[int]bool{-1 << 63: false, -1: false, 0: true, most: true, most + 1: false, 1<<63 - 1: false} {
			if got := fields.Fits(n, size); got != want {
				t.Errorf("%d in %d bytes: %t", n, size, got)
			}
		}
	}
}

func TestIsVersion(t *testing.T) {
	for n, want := range map[int]bool{-1 << 63: false, -1: false, 0: false, 1: true, 1<<32 - 1: true, 1 << 32: false, 1<<32 + 1: false, 1<<63 - 1: false} {
		if got := fields.IsVersion(n); got != want {
			t.Errorf("%d: %t", n, got)
		}
	}
}
