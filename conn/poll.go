package conn

import (
	"iter"
	"slices"

	"shibboleth/api"
	"shibboleth/frame"
	"shibboleth/header"
	"shibboleth/hello"
	"shibboleth/ideal"
	"shibboleth/kinds"
)

const (
	leastFirst = 1000 // bytes of a client's datagram with a packet of the level 0
	trust      = 3    // times as many bytes as came go to who has not shown yet that he hears them
	maxTerms   = 15   // that a packet's frames carry
	width      = 4    // bytes of a packet's number
)

// parcel is a packet that is put together.
type parcel struct {
	head  header.Header
	bytes []byte     // of its frames
	terms []api.Term // that they carry
	gone  []func(number int)
}

// offer is a frame that is due, and what is done when it has gone in the packet of a number.
type offer struct {
	frame frame.Frame
	gone  func(number int)
}

// Poll tells datagrams that are due.
func (c *Conn) Poll(now int) [][]byte {
	if c == nil {
		return nil
	}
	c.pings = c.client && !c.confirmed && c.ticked && !c.speaks()
	c.ticked = false
	var l [][]byte
	for b := c.datagram(); len(b) > 0; b = c.datagram() {
		l = append(l, b)
	}
	return l
}

// speaks: is something of its own due but data?
func (c *Conn) speaks() bool {
	for level := range c.spaces {
		if c.spaces[level].speaks() {
			return true
		}
	}
	return false
}

// datagram puts together what is due, as far as one has room; none, if nothing is.
func (c *Conn) datagram() []byte {
	room := api.MaxDatagram
	if !c.client && !c.shown {
		room = min(room, trust*c.in-c.out)
	}
	var l []*parcel
	for level := range api.Levels {
		if p := c.parcel(level, room); len(p.bytes) > 0 {
			l = append(l, p)
			room -= p.size()
		}
	}
	if c.client {
		pad(l...)
	}
	return c.send(l...)
}

// parcel puts together what is due at a level, in its order, as far as there is room.
func (c *Conn) parcel(level, room int) *parcel {
	p := &parcel{head: c.header(level)}
	if !c.writes(level) {
		return p
	}
	for o := range c.offers(level) {
		if !p.put(room, o.frame) {
			break
		}
		p.gone = append(p.gone, o.gone)
	}
	return p
}

// put puts frames behind those that are there; false, if they have no room.
func (p *parcel) put(room int, frames ...frame.Frame) bool {
	b, _ := frame.Write(frames) // all of them are right
	whole := parcel{head: p.head, bytes: slices.Concat(p.bytes, b), terms: slices.Concat(p.terms, hello.Terms(frames))}
	if whole.size() > room || len(whole.terms) > maxTerms {
		return false
	}
	p.bytes, p.terms = whole.bytes, whole.terms
	return true
}

// size tells how many bytes it has when it is sealed.
func (p *parcel) size() int {
	body := len(ideal.Wrap(1, 0)) + len(p.bytes) // any sealed thing has as many
	return len(header.Write(p.head, body)) + body
}

// pad fills a client's datagram, if its first packet is of the level 0.
func pad(l ...*parcel) {
	missing := leastFirst
	for _, p := range l {
		missing -= p.size()
	}
	if missing > 0 && missing < leastFirst && l[0].head.Kind == api.Initial {
		l[0].put(api.MaxDatagram, frame.Frame{Kind: kinds.Padding, Count: missing})
	}
}

// header tells what stands ahead of a packet; its number and its phase are the guard's.
func (c *Conn) header(level int) header.Header {
	h := header.Header{Kind: level, To: c.peer, Width: width}
	if c.start != nil {
		h.To = c.aim
	}
	if level != api.App {
		h.Version, h.From = c.version, c.own
	}
	if level == api.Initial {
		h.Token = c.proof
	}
	return h
}

// writes: can it write at a level? Its peer's name or its version may be none for a header.
func (c *Conn) writes(level int) bool {
	_, write := c.guard.Has(level)
	return write && header.Right(c.header(level))
}

// offers goes through what is due at a level.
func (c *Conn) offers(level int) iter.Seq[offer] {
	s := &c.spaces[level]
	return func(yield func(offer) bool) {
		for _, o := range c.notes(level) {
			if !yield(o) {
				return
			}
		}
		for _, x := range s.items {
			gone := func(number int) { s.went(x, number) }
			if x.due && !c.ended() && !yield(offer{x.frame, gone}) {
				return
			}
		}
	}
}

// notes tells what is due once, whether or not it is acknowledged.
func (c *Conn) notes(level int) []offer {
	s := &c.spaces[level]
	var l []offer
	note := func(is bool, f frame.Frame, gone func(int)) {
		if is {
			l = append(l, offer{f, gone})
		}
	}
	if c.ended() {
		bye := frame.Frame{Kind: kinds.Close, Count: c.last.code}
		note(c.last.due && level == c.greatest(), bye, func(int) { c.last.due = false })
		return l
	}
	note(s.owes, frame.Frame{Kind: kinds.Ack, Spans: s.came.Spans()}, func(int) { s.owes = false })
	note(c.pings && level == c.pingLevel(), frame.Frame{Kind: kinds.Ping}, func(int) { c.pings = false })
	return l
}

// greatest tells the greatest level at which it can write a close; -1, if there is none.
func (c *Conn) greatest() int {
	for level := api.App; level >= api.Initial; level-- {
		if level != api.Early && c.writes(level) {
			return level
		}
	}
	return -1
}

// pingLevel tells where a client that is not confirmed pings: where it is answered also if its peer is not done.
func (c *Conn) pingLevel() int {
	if c.writes(api.Handshake) {
		return api.Handshake
	}
	return api.Initial
}

// send seals packets that are put together, and tells them; none, if the table has no room for one of them.
func (c *Conn) send(l ...*parcel) []byte {
	var b []byte
	for _, p := range l {
		sealed := c.seal(p)
		if len(sealed) == 0 {
			return nil
		}
		b = append(b, sealed...)
	}
	for _, p := range l {
		c.went(p)
	}
	c.out += len(b)
	return b
}

// seal tells a packet's bytes; none, if the table has no room.
func (c *Conn) seal(p *parcel) []byte {
	text := c.table.Text(p.bytes)
	content := c.table.Make(kinds.Row, slices.Concat([]api.Term{text}, p.terms))
	b, _ := c.guard.Seal(p.head, c.spaces[p.head.Kind].next, content, len(p.bytes))
	return b
}

// went keeps that a packet has gone.
func (c *Conn) went(p *parcel) {
	level := p.head.Kind
	s := &c.spaces[level]
	for _, gone := range p.gone {
		gone(s.next)
	}
	if level == api.App {
		c.turns(s.next)
	}
	s.next++
	if c.client && level == api.Handshake {
		c.leave(api.Initial)
	}
}

// turns keeps which packet of the level 3 is the first one of its generation.
func (c *Conn) turns(number int) {
	if _, writing := c.guard.Phases(); writing != c.turn.generation {
		c.turn = turn{generation: writing, first: number}
	}
}
