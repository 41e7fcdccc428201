package conn_test

import (
	"slices"
	"testing"

	"shibboleth/api"
	"shibboleth/conn"
	"shibboleth/frame"
	"shibboleth/hello"
	"shibboleth/strike"
)

// kinds tells the kinds of the frames that stand in packets of a level.
func kinds(l []packet, level int) []int {
	var all []int
	for _, p := range at(l, level) {
		for _, f := range p.frames {
			all = append(all, f.Kind)
		}
	}
	slices.Sort(all)
	return all
}

// A hello is due again behind each Tick, and not without, till it is acknowledged.
func TestP22_2AHelloIsDueAgain(t *testing.T) {
	w := newHouse()
	c, h := w.client(t, fresh)
	first := h.reads(c.Poll(1)...)
	for i := range 5 {
		if l := c.Poll(1); len(l) != 0 {
			t.Errorf("P22.2: without a Tick: %v", h.reads(l...))
		}
		c.Tick()
		c.Tick()
		l := c.Poll(1)
		got := h.reads(l...)
		if len(l) != 1 || len(l[0]) < 1000 || len(got) != 1 || got[0].number != i+1 || len(got[0].frames) != 2 || string(got[0].frames[0].Data) != string(first[0].frames[0].Data) {
			t.Errorf("P22.2: behind a Tick: %v", got)
		}
	}
	// An ack of any of them is one of the hello; one of what was not sent is none.
	c.Deliver(h.sends(api.Initial, ack(100, 6)), 1)
	c.Tick()
	if l := h.reads(c.Poll(1)...); len(of(l, crypto)) != 1 {
		t.Errorf("P22.2: an ack of what was not sent: %v", l)
	}
	c.Deliver(h.sends(api.Initial, ack(2)), 1)
	c.Tick()
	if l := h.reads(c.Poll(1)...); len(of(l, crypto)) != 0 {
		t.Errorf("P22.2: behind an ack: %v", l)
	}
}

func TestP22_2AFlightIsDueAgain(t *testing.T) {
	w := newHouse()
	s, h := w.server(t, shaken)
	if len(s.Poll(1)) != 0 {
		t.Error("P22.2: without a Tick")
	}
	s.Deliver(h.wide(h.sends(api.Initial, frame.Frame{Kind: padding, Count: 1})), 1)
	s.Tick()
	l := h.reads(s.Poll(1)...)
	if len(of(at(l, api.Initial), crypto)) != 1 || len(of(at(l, api.Handshake), crypto)) != 4 {
		t.Errorf("P22.2: behind a Tick: %v", l)
	}
	s.Deliver(h.sends(api.Handshake, ack(at(l, api.Handshake)[0].number)), 1)
	s.Tick()
	if l := s.Poll(1); len(l) != 0 {
		t.Errorf("P22.2: behind an ack: %v", h.reads(l...))
	}
}

// A server that is done sends a done frame, its token, if it has one, and its ticket; each is due till it is acknowledged.
func TestP22_2WhatAServerSaysInTheEnd(t *testing.T) {
	for _, token := range []bool{true, false} {
		w := newHouse()
		if !token {
			w.token = 0
		}
		s, h := w.server(t, shaken)
		s.Deliver(h.tells(), 1)
		want := []int{crypto, tokenKind, doneKind}
		if !token {
			want = []int{crypto, doneKind}
		}
		for i := range 4 {
			l := h.reads(s.Poll(1)...)
			if got := kinds(l, api.App); !slices.Equal(got, want) {
				t.Errorf("P22.2: %d: a server says %v in the end, not %v", i, got, want)
			}
			for _, f := range of(l, tokenKind) {
				if f.Term != w.token {
					t.Errorf("P22.2: the token is %d, not %d", f.Term, w.token)
				}
			}
			m, _ := hello.Read(of(l, crypto)[0].Data)
			if m.Kind != 4 || m.Life != w.host.Life {
				t.Errorf("P22.2: the ticket is %v", m)
			}
			if len(s.Poll(1)) != 0 {
				t.Error("P22.2: without a Tick")
			}
			s.Tick()
		}
		l := h.reads(s.Poll(1)...)
		s.Deliver(h.sends(api.App, ack(l[0].number)), 1)
		s.Tick()
		if l := s.Poll(1); len(l) != 0 {
			t.Errorf("P22.2: behind an ack: %v", h.reads(l...))
		}
	}
	// What is no term is none to send.
	for _, none := range []api.Term{-1, api.MaxTerms, api.MaxTerms + 1} {
		w := newHouse()
		w.token = none
		s, h := w.server(t, shaken)
		s.Deliver(h.tells(), 1)
		if got := kinds(h.reads(s.Poll(1)...), api.App); !slices.Equal(got, []int{crypto, doneKind}) {
			t.Errorf("P22.2: with the token %d: %v", none, got)
		}
	}
}

// What comes of it at a client: a ticket, a token, and that it is confirmed.
func TestP22_2WhatAClientHasInTheEnd(t *testing.T) {
	w := newHouse()
	c, h := w.client(t, ended)
	h.reads(c.Poll(1)...)
	if s := c.State(); !s.Done || s.Confirmed || s.Token != 0 || len(s.Passes) != 0 || string(s.Peer) != hostName {
		t.Errorf("P22.2: %v", s)
	}
	c.Deliver(h.tells(), 1)
	c.Deliver(h.sends(api.App, frame.Frame{Kind: tokenKind, Term: w.token}), 1)
	if s := c.State(); s.Confirmed || s.Token != w.token || len(s.Passes) != 1 || s.Passes[0].Secret != c.Facts().Resume || s.Passes[0].Life != w.host.Life || s.Passes[0].Version != 1 {
		t.Errorf("P22.2: %v", s)
	}
	c.Deliver(h.sends(api.App, frame.Frame{Kind: doneKind}), 1)
	if s := c.State(); !s.Confirmed || s.Closed || s.Fail != api.OK {
		t.Errorf("P22.2: %v", s)
	}
	if f, g := c.Facts(), h.facts(); !f.Done || f.Transcript != g.Transcript || f.Peer != "host" || f.Client != g.Client {
		t.Errorf("P22.2: %v, %v", f, g)
	}
}

// A client that is not confirmed pings behind a Tick, if nothing of its own is due but data.
func TestP22_2Ping(t *testing.T) {
	is := func(what string, c *conn.Conn, h *hand, level int, want bool) {
		t.Helper()
		l := h.reads(c.Poll(1)...)
		if got := len(of(at(l, level), ping)); (got == 1) != want || len(of(l, ping)) != got {
			t.Errorf("P22.2: %s: %v", what, l)
		}
	}
	w := withTicket()
	c, h := w.client(t, fresh)
	is("at first", c, h, api.Initial, false)
	c.Tick()
	is("a hello is due", c, h, api.Initial, false)
	c.Deliver(h.sends(api.Initial, ack(0)), 1)
	is("without a Tick", c, h, api.Initial, false)
	for range 3 {
		c.Tick()
		c.Tick()
		is("behind a Tick", c, h, api.Initial, true)
		is("once", c, h, api.Initial, false)
	}
	c.Send(w.token)
	is("data are due", c, h, api.Initial, false)
	c.Send(w.token)
	c.Tick()
	is("data are due, behind a Tick", c, h, api.Initial, true)

	c, h = w.client(t, shaken)
	c.Tick()
	is("a hello is due, at the level 2", c, h, api.Handshake, false)
	c.Deliver(h.sends(api.Initial, ack(0)), 1)
	c.Tick()
	c.Deliver(h.sends(api.Initial, frame.Frame{Kind: ping}), 1)
	is("where an ack is due", c, h, api.Handshake, true)
	c.Tick()
	is("at the level 2", c, h, api.Handshake, true)

	c, h = w.client(t, ended)
	l := h.reads(c.Poll(1)...)
	c.Tick()
	is("a finished is due", c, h, api.Handshake, false)
	c.Deliver(h.sends(api.Handshake, ack(at(l, api.Handshake)[0].number)), 1)
	c.Send(w.token)
	c.Tick()
	is("nothing is due but data", c, h, api.Handshake, true)
	c.Deliver(h.tells(), 1)
	c.Tick()
	c.Deliver(h.sends(api.App, frame.Frame{Kind: doneKind}), 1)
	is("it is confirmed", c, h, api.App, false)
	c.Tick()
	is("it is confirmed, behind a Tick", c, h, api.App, false)

	s, g := w.server(t, shaken)
	s.Deliver(g.wide(g.sends(api.Initial, ack(0))), 1)
	s.Deliver(g.sends(api.Handshake, ack(0)), 1)
	s.Tick()
	is("a server", s, g, api.Handshake, false)
}

// A client's datagram with a packet of the level 0 has 1000 bytes, and its padding stands in that packet.
func TestP22_2ThousandBytes(t *testing.T) {
	w := withTicket()
	c, h := w.client(t, fresh)
	sends(t, w, c, 9)
	check := func(what string) {
		t.Helper()
		for _, b := range c.Poll(1) {
			l := h.reads(b)
			first := len(at(l, api.Initial)) > 0
			if first != (len(b) >= 1000) || len(b) > 1010 || first != (len(of(at(l, api.Initial), padding)) == 1) || len(of(l, padding)) > 1 {
				t.Errorf("P22.2: %s: %d bytes: %v", what, len(b), l)
			}
		}
	}
	check("a hello with early data")
	c.Tick()
	check("behind a Tick")
	c.Deliver(h.sends(api.Initial, frame.Frame{Kind: ping}, ack(1)), 1)
	check("an ack")
	c.Tick()
	check("a ping")
	c.Deliver(h.sends(api.Initial, frame.Frame{Kind: ping}), 1)
	c.Deliver(h.tells(), 1)
	check("an ack and a finished")
	c.Tick()
	check("a finished")
	c = w.dials()
	h = w.byHost(t)
	c.Close(4)
	check("a close")
}

// A datagram has at most 1200 bytes, a packet at most 15 terms.
func TestP22_2ManyData(t *testing.T) {
	for _, many := range []int{14, 15, 16, 30, 200} {
		for _, early := range []bool{false, true} {
			w := withTicket()
			w.guest.Data, w.host.Data, w.guest.Early = 500, 500, early
			c, s := w.dials(), w.accepts()
			w.host.Store = strike.New(50, 50) // both take the ticket
			h := w.byHost(t)
			sends(t, w, c, many)
			level := api.App
			if early {
				level = api.Early
			} else {
				h.reads(c.Poll(1)...)
				c.Deliver(h.tells(), 1)
			}
			datagrams := c.Poll(1)
			l := h.reads(datagrams...)
			if got := of(at(l, level), dataKind); len(got) != many || len(at(l, level)) != (many+14)/15 {
				t.Errorf("P22.2: %d data are in %d packets", len(got), len(at(l, level)))
			}
			for _, p := range l {
				if terms := hello.Terms(p.frames); len(terms) > 15 {
					t.Errorf("P22.2: %d terms in a packet", len(terms))
				}
			}
			if !early {
				continue
			}
			for _, b := range datagrams {
				s.Deliver(b, 1)
			}
			if got := s.Recv(); len(got) != many {
				t.Errorf("P22.2: %d of %d early data are taken", len(got), many)
			}
		}
	}
}

// What has no room in one datagram goes in the next one.
func TestP22_2LongAcks(t *testing.T) {
	w := newHouse()
	w.guest.Data, w.host.Data = 1<<40, 1<<40
	s, h := w.server(t, met)
	sends(t, w, s, 40)
	for i := range 40 {
		h.next[api.App] = 1000 + 70000*i
		s.Deliver(h.sends(api.App, frame.Frame{Kind: ping}), 1)
	}
	l := s.Poll(1)
	got := h.reads(l...)
	if len(l) != 3 || len(acks(got, api.App)) != 32 || len(of(got, dataKind)) != 40 {
		t.Errorf("P22.2: %d datagrams, %d spans, %d data", len(l), len(acks(got, api.App)), len(of(got, dataKind)))
	}
}

// Till a packet of the level 2 was opened, a server sends at most three times as many bytes as came to it.
func TestP22_2ThreeTimes(t *testing.T) {
	for _, size := range []int{0, 200, 350, 600, 1000} {
		w := newHouse()
		s, h := w.accepts(), w.byGuest(t)
		in, out := 0, 0
		comes := func(b []byte) {
			s.Deliver(b, 1)
			in += len(b)
		}
		ticks := func(many int) {
			t.Helper()
			for range many {
				l := s.Poll(1)
				for _, b := range l {
					out += len(b)
				}
				h.reads(l...)
				s.Tick()
			}
			if x := s.State(); x.In != in || x.Out != out {
				t.Errorf("P22.2: %d bytes came, %d went: %v", in, out, x)
			}
		}
		hello := h.tells()
		if more := size - len(hello); more > 0 {
			hello = append(h.sends(api.Initial, frame.Frame{Kind: padding, Count: more}), hello...)
		}
		comes(hello)
		ticks(40)
		if out > 3*in || out < 3*in-1200 || out == 0 {
			t.Errorf("P22.2: %d bytes came, %d went", in, out)
		}
		before := out
		comes(make([]byte, 500)) // whatever it is
		ticks(40)
		if out > 3*in || out == before {
			t.Errorf("P22.2: 500 bytes came, %d went", out-before)
		}
		h.to = w.name
		comes(h.sends(api.Handshake, frame.Frame{Kind: padding, Count: 1}))
		ticks(40)
		if out < 3*in+1200 {
			t.Errorf("P22.2: behind a packet of the level 2 %d bytes went", out)
		}
	}
}

// What has no room behind what came stays due.
func TestP22_2NoRoomYet(t *testing.T) {
	w := newHouse()
	s, h := w.accepts(), w.byGuest(t)
	s.Close(3)
	if len(s.Poll(1)) != 0 {
		t.Error("P22.2: a server to which nothing came closes")
	}
	s.Deliver(make([]byte, 10), 1)
	if len(s.Poll(1)) != 0 {
		t.Error("P22.2: a server to which 10 bytes came closes")
	}
	s.Deliver(make([]byte, 100), 1)
	if l := of(h.reads(s.Poll(1)...), closeKind); len(l) != 1 || l[0].Count != 3 || len(s.Poll(1)) != 0 {
		t.Errorf("P22.2: %v", l)
	}
}
