package listen

import (
	"bytes"
	"slices"

	"shibboleth/api"
	"shibboleth/conn"
	"shibboleth/fields"
	"shibboleth/guard"
	"shibboleth/header"
	"shibboleth/ideal"
	"shibboleth/sched"
	"shibboleth/special"
	"shibboleth/token"
	"shibboleth/varint"
)

const (
	leastFirst = 1000 // bytes of a datagram that is answered, or with which a talk begins
	retryMark  = 'r'  // with which a Retry's name begins
)

// arrival is a datagram that has come.
type arrival struct {
	first    header.Packet
	token    api.Term // of the first packet; 0, if it has no term's number as one
	datagram []byte
	address  int
	now      int
}

// Deliver takes a datagram from an address.
func (l *Listener) Deliver(address int, b []byte, now int) {
	if l == nil || now < 0 || varint.Size(address) == 0 {
		return
	}
	h, size, end, e := header.Read(b)
	if e != api.OK {
		return
	}
	x := arrival{first: header.Packet{Header: h, Head: b[:size], Body: b[size:end]}, datagram: b, address: address, now: now}
	x.token, _ = ideal.Numbered(h.Token)
	for _, settles := range [...]func(arrival) bool{l.goesOn, l.tooLittle, l.otherVersion, l.otherNames, l.notShown, l.begins} {
		if settles(x) {
			return
		}
	}
}

// goesOn: is there a talk that takes it?
func (l *Listener) goesOn(x arrival) bool {
	side := l.takes(x)
	side.Deliver(x.datagram, x.now) // where there is none this does nothing
	return side != nil
}

// takes tells the talk that a datagram is for; nil, if there is none.
func (l *Listener) takes(x arrival) *conn.Conn {
	h := x.first.Header
	var side *conn.Conn
search:
	for _, t := range l.talks {
		switch {
		case bytes.Equal(t.own, h.To):
			side = t.side
			break search // it counts ahead of a first goal, whichever talk's that is
		case h.Kind != api.Initial && h.Kind != api.Early:
			continue search
		case t.address == x.address && bytes.Equal(t.goal, h.To):
			side = t.side
		}
	}
	return side
}

// tooLittle: does nothing come of a datagram that no talk takes?
func (l *Listener) tooLittle(x arrival) bool {
	return x.first.Header.Kind != api.Initial || len(x.datagram) < leastFirst
}

// otherVersion: is it of a version that is none of its own? Then it tells which it has.
func (l *Listener) otherVersion(x arrival) bool {
	h := x.first.Header
	if slices.Contains(l.config.Server.Versions, h.Version) {
		return false
	}
	l.answer(x, special.WriteList(special.List{To: h.From, From: h.To, Versions: l.config.Server.Versions}))
	return true
}

// otherNames: are its names none with which a talk begins?
func (l *Listener) otherNames(x arrival) bool {
	h := x.first.Header
	return len(h.To) != nameSize || len(h.From) != nameSize
}

// notShown: is its address to be shown first? Then it asks for that.
func (l *Listener) notShown(x arrival) bool {
	if !l.config.Shown || x.token != 0 {
		return false
	}
	h := x.first.Header
	shows := token.Mint(l.table, l.config.Key, token.Token{Address: x.address, Time: x.now, Name: h.To})
	r := special.Retry{Version: h.Version, To: h.From, From: retryName(shows), Token: shows}
	r.Tag = special.Tag(l.table, h.To, r)
	l.answer(x, special.WriteRetry(r))
	return true
}

// retryName is the name from which a token's Retry comes.
func retryName(shows api.Term) []byte {
	return fields.Append([]byte{retryMark}, int(shows), nameSize-1)
}

// answer lets an answer be told; one for which the table has no room is none.
func (l *Listener) answer(x arrival, b []byte) {
	if len(b) > 0 {
		l.answers = append(l.answers, Mail{Address: x.address, Data: b})
	}
}

// begins lets a talk begin with it, if it may. Nothing stands behind this.
func (l *Listener) begins(x arrival) bool {
	goal, again, may := l.asked(x)
	if !may || len(l.talks) >= maxTalks || l.table.Size() >= api.MaxTerms || !l.opens(x.first) {
		return true
	}
	h := x.first.Header
	own := fields.Append(nil, len(l.talks)+1, nameSize)
	later := token.Mint(l.table, l.config.Key, token.Token{Later: true, Address: x.address, Time: x.now})
	side, e := conn.Accept(l.table, l.config.Server, h.Version, own, h.From, goal, h.To, again, later)
	if later == 0 || e != api.OK {
		return true
	}
	side.Deliver(x.datagram, x.now)
	l.talks = append(l.talks, talk{side: side, address: x.address, own: own, goal: h.To})
	return true
}

// asked tells the first goal of who begins, and if that was ahead of a Retry; false, if the token that he has is not right.
func (l *Listener) asked(x arrival) (goal []byte, again, may bool) {
	h := x.first.Header
	if x.token == 0 {
		return h.To, false, true
	}
	said, e := token.Check(l.table, l.config.Key, x.token, x.address, x.now, l.config.Life)
	if e != api.OK {
		return nil, false, false
	}
	if said.Later {
		return h.To, false, true
	}
	return said.Name, true, bytes.Equal(h.To, retryName(x.token))
}

// opens: does a packet open with the first secrets of its goal? A guard of its own is asked: the talk's is to open it, too.
func (l *Listener) opens(p header.Packet) bool {
	read, _ := sched.First(l.table, p.Header.To)
	g := guard.New(l.table)
	g.Install(api.Initial, read, 0)
	_, e := g.Open(p)
	return e == api.OK
}
