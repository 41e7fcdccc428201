package header

import (
	"shibboleth/api"
	"shibboleth/fields"
)

// reader takes a header's fields, in their order; what has no form is a panic of an api.Errno.
type reader struct {
	in  *fields.Reader
	h   Header
	end int // where the packet ends
}

// first takes the byte that tells the kind, the phase and the width.
func (r *reader) first() {
	b := r.in.Fixed(1)
	r.h.Width = b&3 + 1
	switch {
	case b&^7 == shortMark:
		r.h.Kind, r.h.Phase = short, b>>2&1
	case b&^0x33 == longMark && b>>4&3 != short:
		r.h.Kind = b >> 4 & 3
	default:
		panic(api.ErrForm)
	}
}

// behind tells how the fields behind the first byte are taken.
func (r *reader) behind() []func() {
	switch r.h.Kind {
	case short:
		return []func(){r.shortTo, r.number, r.whole}
	case initial:
		return []func(){r.version, r.to, r.from, r.token, r.length, r.number}
	}
	return []func(){r.version, r.to, r.from, r.length, r.number}
}

func (r *reader) version() {
	r.h.Version = r.in.Fixed(fields.VersionSize)
	fields.Want(fields.IsVersion(r.h.Version), api.ErrForm)
}

func (r *reader) to() { r.h.To = r.name() }

func (r *reader) from() { r.h.From = r.name() }

func (r *reader) shortTo() { r.h.To = r.in.Bytes(shortName) }

func (r *reader) token() { r.h.Token = r.atMost(maxToken, r.in.Number()) }

// length takes how long the packet is from the number on.
func (r *reader) length() {
	n := r.in.Number()
	fields.Want(n >= r.h.Width, api.ErrForm)
	fields.Want(n <= r.in.Left(), api.ErrShort)
	r.end = r.in.Taken() + n
}

func (r *reader) number() { r.h.Number = r.in.Fixed(r.h.Width) }

// whole lets the packet end where the bytes do.
func (r *reader) whole() { r.end = r.in.Taken() + r.in.Left() }

// name takes a name behind the byte of its length.
func (r *reader) name() []byte { return r.atMost(api.MaxName, r.in.Fixed(1)) }

// atMost takes n bytes, if that is not too many.
func (r *reader) atMost(most, n int) []byte {
	fields.Want(n <= most, api.ErrLong)
	return r.in.Bytes(n)
}
