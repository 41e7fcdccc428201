package frame

import (
	"shibboleth/api"
	"shibboleth/fields"
	"shibboleth/ideal"
	"shibboleth/kinds"
)

const termSize = 4 // bytes of a term's number

// reader takes frames, one behind the other; what has no form is a panic of an api.Errno.
type reader struct {
	in *fields.Reader
	f  Frame // the one that is being taken
}

// frames takes all that is there: one or more.
func (r *reader) frames() []Frame {
	bodies := r.bodies()
	var l []Frame
	for len(l) == 0 || r.in.Left() > 0 {
		r.f = Frame{Kind: r.in.Fixed(1)}
		body, is := bodies[r.f.Kind]
		fields.Want(is, api.ErrForm)
		body()
		fields.Want(Right(r.f), api.ErrForm)
		l = append(l, r.f)
	}
	return l
}

// bodies tells how what stands behind a kind's byte is taken.
func (r *reader) bodies() map[int]func() {
	return map[int]func(){
		kinds.Padding: r.padding,
		kinds.Ping:    r.nothing,
		kinds.Ack:     r.ack,
		kinds.Crypto:  r.crypto,
		kinds.Token:   r.token,
		kinds.Data:    r.data,
		kinds.Close:   r.close,
		kinds.Done:    r.nothing,
	}
}

func (r *reader) padding() { r.f.Count = 1 + r.in.Run(kinds.Padding) }

func (r *reader) nothing() {}

// ack takes spans, the greatest first. Too many of them, and one that goes below 0, are not right then.
func (r *reader) ack() {
	to := r.in.Number()
	others := r.in.Number()
	r.span(to)
	for range others {
		last := r.f.Spans[len(r.f.Spans)-1]
		r.span(last.From - r.in.Number() - 2)
	}
}

// span takes how far the span that ends with a number goes down.
func (r *reader) span(to int) {
	r.f.Spans = append(r.f.Spans, Span{to - r.in.Number(), to})
}

func (r *reader) crypto() {
	r.f.At = r.in.Number()
	r.f.Data = r.in.Bytes(r.in.Number())
}

func (r *reader) token() {
	h, is := ideal.Numbered(r.in.Bytes(termSize))
	fields.Want(is, api.ErrForm)
	r.f.Term = h
}

func (r *reader) data() {
	r.f.Count = r.in.Number()
	r.token()
}

func (r *reader) close() { r.f.Count = r.in.Number() }
