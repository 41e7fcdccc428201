package hello

import (
	"shibboleth/api"
	"shibboleth/fields"
	"shibboleth/ideal"
	"shibboleth/kinds"
)

const (
	termSize   = 4 // bytes of a term's number
	lengthSize = 3 // bytes of a message's length
)

// reader takes what a message has; what has no form is a panic of an api.Errno.
type reader struct {
	in *fields.Reader
	m  Msg
}

// message takes all of a message of layer 13.
func (r *reader) message() Msg {
	r.m.Kind = r.in.Fixed(1)
	r.in.Fixed(lengthSize) // layer 13 has looked at it
	body, is := r.bodies()[r.m.Kind]
	fields.Want(is, api.ErrForm)
	body()
	fields.Want(r.in.Left() == 0 && Right(r.m), api.ErrForm)
	return r.m
}

// bodies tells how what stands behind a message's length is taken.
func (r *reader) bodies() map[int]func() {
	return map[int]func(){
		kinds.ClientHello: r.clientHello,
		kinds.ServerHello: r.serverHello,
		kinds.Ticket:      r.ticket,
		kinds.Params:      r.told,
		kinds.Name:        r.name,
		kinds.Proof:       r.mac,
		kinds.Finished:    r.mac,
	}
}

func (r *reader) clientHello() {
	r.shares()
	r.flag()
	has := r.bit()
	if has {
		r.m.Ticket = r.term()
	}
	r.params()
	if has {
		r.mac()
	}
}

func (r *reader) serverHello() {
	r.shares()
	r.m.Version = r.in.Fixed(fields.VersionSize)
	r.flag()
}

func (r *reader) ticket() {
	r.m.Ticket = r.term()
	r.m.Life = r.in.Number()
}

func (r *reader) told() {
	r.flag()
	r.params()
}

func (r *reader) name() { r.m.Name = string(r.in.Bytes(r.in.Left())) }

func (r *reader) mac() { r.m.Mac = r.term() }

// shares takes what both hellos begin with.
func (r *reader) shares() {
	r.m.Random = r.term()
	r.m.Share = r.term()
}

func (r *reader) flag() { r.m.Flag = r.bit() }

func (r *reader) params() { r.m.Params = r.in.Bytes(r.in.Number()) }

// bit takes a byte that is 0 or 1.
func (r *reader) bit() bool {
	x := r.in.Fixed(1)
	fields.Want(x <= 1, api.ErrForm)
	return x == 1
}

// term takes a term's number.
func (r *reader) term() api.Term {
	h, is := ideal.Numbered(r.in.Bytes(termSize))
	fields.Want(is, api.ErrForm)
	return h
}
