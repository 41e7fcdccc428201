package conn_test

import (
	"bytes"
	"reflect"
	"slices"
	"strings"
	"testing"

	"shibboleth/api"
	"shibboleth/client"
	"shibboleth/conn"
	"shibboleth/frame"
	"shibboleth/hello"
	"shibboleth/params"
	"shibboleth/term"
)

// refusals tells what may not be, each alone.
type refusal struct {
	what string
	put  func(w *house)
}

// wrongNames may be on neither side.
func wrongNames(name func(w *house) *[]byte, sizes ...int) []refusal {
	var l []refusal
	for _, n := range sizes {
		l = append(l, refusal{"a name of other bytes", func(w *house) { *name(w) = make([]byte, n) }})
	}
	return l
}

func TestP22_1DialRefuses(t *testing.T) {
	all := []refusal{
		{"no table", func(w *house) { w.x = nil }},
		{"no name", func(w *house) { w.guest.Name = "" }},
		{"51 bytes of a name", func(w *house) { w.guest.Name = strings.Repeat("n", 51) }},
		{"no public term", func(w *house) { w.guest.Public = w.host.Secret }},
		{"another version", func(w *house) { w.version = 3 }},
		{"version 0", func(w *house) { w.version = 0 }},
		{"no versions", func(w *house) { w.guest.Versions = nil }},
		{"a limit below 0", func(w *house) { w.guest.Data = -1 }},
		{"an idle time below 0", func(w *house) { w.guest.Idle = -1 }},
		{"a ticket alone", func(w *house) { w.guest.Ticket = 1 }},
		{"early without a ticket", func(w *house) { w.guest.Early = true }},
		{"early with a ticket of another version", func(w *house) {
			w.guest.Ticket, w.guest.Secret, w.guest.Version, w.guest.Early = 1, 1, 2, true
		}},
	}
	all = append(all, wrongNames(func(w *house) *[]byte { return &w.own }, 0, 1, 7, 9, 20)...)
	all = append(all, wrongNames(func(w *house) *[]byte { return &w.goal }, 0, 1, 7, 9, 20)...)
	for _, r := range all {
		w := newHouse()
		r.put(w)
		if c, e := w.dial(); c != nil || e != api.ErrArg {
			t.Errorf("P22.1: %s: %v, %d", r.what, c, e)
		}
	}
	w := newHouse()
	w.guest.Ticket, w.guest.Secret, w.guest.Version, w.guest.Early = 1, 1, 1, true
	if c, e := w.dial(); c == nil || e != api.OK {
		t.Errorf("P22.1: a ticket with early data: %d", e)
	}
}

func TestP22_1AcceptRefuses(t *testing.T) {
	all := []refusal{
		{"no table", func(w *house) { w.x = nil }},
		{"no name", func(w *house) { w.host.Name = "" }},
		{"51 bytes of a name", func(w *house) { w.host.Name = strings.Repeat("n", 51) }},
		{"no secret", func(w *house) { w.host.Secret = w.guest.Public }},
		{"no key", func(w *house) { w.host.Key = 0 }},
		{"a lifetime below 0", func(w *house) { w.host.Life = -1 }},
		{"no versions", func(w *house) { w.host.Versions = nil }},
		{"a limit below 0", func(w *house) { w.host.Data = -1 }},
		{"a Retry's name of 21 bytes", func(w *house) { w.again, w.retried = true, make([]byte, 21) }},
	}
	all = append(all, wrongNames(func(w *house) *[]byte { return &w.name }, 0, 1, 7, 9, 20)...)
	all = append(all, wrongNames(func(w *house) *[]byte { return &w.own }, 21, 300)...)
	all = append(all, wrongNames(func(w *house) *[]byte { return &w.goal }, 21, 300)...)
	for _, r := range all {
		w := newHouse()
		r.put(w)
		if s, e := w.accept(); s != nil || e != api.ErrArg {
			t.Errorf("P22.1: %s: %v, %d", r.what, s, e)
		}
	}
	may := []refusal{{"a Retry's name of 21 bytes, without one", func(w *house) { w.retried = make([]byte, 21) }}}
	may = append(may, wrongNames(func(w *house) *[]byte { return &w.own }, 0, 7, 20)...)
	may = append(may, wrongNames(func(w *house) *[]byte { return &w.goal }, 0, 7, 20)...)
	for _, r := range may {
		w := newHouse()
		r.put(w)
		if s, e := w.accept(); s == nil || e != api.OK || len(s.Poll(1)) != 0 {
			t.Errorf("P22.1: %s: %d", r.what, e)
		}
	}
}

// Where there is no room for a hello or the first secrets there is no side.
func TestP22_1NoRoom(t *testing.T) {
	for left := range 20 {
		w := newHouse()
		fill(w.x, left)
		c, e := w.dial()
		if (c == nil) != (e != api.OK) || e != api.OK && e != api.ErrFull || left == 0 && c != nil {
			t.Errorf("P22.1: Dial, with room for %d terms: %v, %d", left, c, e)
		}
		w = newHouse()
		fill(w.x, left)
		s, e := w.accept()
		if (s == nil) != (e != api.OK) || e != api.OK && e != api.ErrFull || left == 0 && s != nil || left > 8 && s == nil {
			t.Errorf("P22.1: Accept, with room for %d terms: %v, %d", left, s, e)
		}
	}
}

// fill leaves room for so many terms.
func fill(x *term.Table, left int) {
	for x.Size() < api.MaxTerms-left {
		x.Secret()
	}
}

func TestP22_1AClientHasItsHelloToSay(t *testing.T) {
	w := newHouse()
	c, h := w.dials(), w.byHost(t)
	if got, want := c.State(), (conn.State{Client: true, Own: w.own, Version: 1}); !reflect.DeepEqual(got, want) {
		t.Errorf("P22.1: a client is %v, not %v", got, want)
	}
	if f := c.Facts(); !reflect.DeepEqual(f, client.Facts{}) {
		t.Errorf("P22.1: a client has %v", f)
	}
	l := c.Poll(1)
	if len(l) != 1 || len(l[0]) < 1000 || len(l[0]) > api.MaxDatagram {
		t.Fatalf("P22.1: %d datagrams", len(l))
	}
	got := h.reads(l...)
	if len(got) != 1 || len(got[0].frames) != 2 {
		t.Fatalf("P22.1: the packets %v", got)
	}
	p := got[0]
	if p.level != api.Initial || p.number != 0 || p.header.Width != 4 || p.header.Version != 1 || len(p.header.Token) != 0 || !bytes.Equal(p.header.To, w.goal) || !bytes.Equal(p.header.From, w.own) {
		t.Errorf("P22.1: the header %v", p.header)
	}
	said, pad := p.frames[0], p.frames[1]
	m, e := hello.Read(said.Data)
	if said.Kind != crypto || said.At != 0 || e != api.OK || m.Kind != clientSaid || m.Ticket != 0 || pad.Kind != padding {
		t.Errorf("P22.1: the frames %v", p.frames)
	}
	own, _ := params.Read(m.Params)
	want := params.Params{Idle: 1, Data: 9, HasOwn: true, Own: w.own, Chosen: 1, Versions: []int{1, 2}}
	if !params.Same(own, want) {
		t.Errorf("P22.1: the params %v, not %v", own, want)
	}
	if l[0][0] != 0xc3 {
		t.Errorf("P22.1: the first byte is %x", l[0][0])
	}
	if len(c.Poll(1)) != 0 {
		t.Error("P22.1: it has more to say")
	}
	if got, want := c.State(), (conn.State{Client: true, Own: w.own, Version: 1, Out: len(l[0])}); !reflect.DeepEqual(got, want) {
		t.Errorf("P22.1: a client is %v, not %v", got, want)
	}
}

// The first packet opens with the secret that the goal gives to the client's side, and what opens at the client is of the server's side.
func TestP22_1FirstSecrets(t *testing.T) {
	for _, again := range []bool{false, true} {
		w := newHouse()
		w.again = again
		s, h := w.accepts(), w.byGuest(t)
		if got, want := s.State(), (conn.State{Own: w.name, Peer: w.own, Version: 1, Token: w.token}); !reflect.DeepEqual(got, want) {
			t.Errorf("P22.1: a server is %v, not %v", got, want)
		}
		if s.Tick(); len(s.Poll(1)) != 0 {
			t.Error("P22.1: a server begins")
		}
		s.Deliver(h.wide(h.tells()), 1)
		l := h.reads(s.Poll(1)...)
		if len(at(l, api.Initial)) != 1 || !bytes.Equal(l[0].header.To, w.own) || !bytes.Equal(l[0].header.From, w.name) {
			t.Errorf("P22.1: behind a retry %t: %v", again, l)
		}
	}
	// What is sealed with the other name's secrets, or for the other name, does not open.
	for _, again := range []bool{false, true} {
		w := newHouse()
		w.again = again
		s := w.accepts()
		w.again = !again
		h := w.byGuest(t)
		other := h.to
		b := h.wide(h.tells())
		s.Deliver(b, 1)
		h.to = w.name
		s.Deliver(h.wide(h.sends(api.Initial, frame.Frame{Kind: ping})), 1)
		if l := s.Poll(1); len(l) != 0 {
			t.Errorf("P22.1: behind a retry %t: a packet to %s opens", again, other)
		}
	}
}

// R4: what is handed in is neither changed nor kept; what is told is new memory.
func TestR4Names(t *testing.T) {
	roomy := func(s []byte) []byte { return append(make([]byte, 0, 40), s...) }
	w := newHouse()
	w.again = true
	same := *w // with names and lists of its own
	same.guest.Versions, same.host.Versions = slices.Clone(w.guest.Versions), slices.Clone(w.host.Versions)
	w.own, w.name, w.goal, w.retried = roomy(w.own), roomy(w.name), roomy(w.goal), roomy(w.retried)
	c, s := w.dials(), w.accepts()
	for _, b := range [][]byte{w.own, w.name, w.goal, w.retried} {
		if slices.Max(b[8:40]) > 0 {
			t.Errorf("R4: the room behind %s is used", b[:8])
		}
		clear(b)
	}
	w.guest.Versions[0], w.host.Versions[0] = 7, 7
	for _, x := range []*conn.Conn{c, s} {
		state := x.State()
		clear(state.Own)
		clear(state.Peer)
	}
	if x := c.State(); string(x.Own) != guestName {
		t.Errorf("R4: a client's names are changed: %v", x)
	}
	if x := s.State(); string(x.Own) != hostName || string(x.Peer) != guestName {
		t.Errorf("R4: a server's names are changed: %v", x)
	}
	first := same
	first.again = false
	if l := first.byHost(t).reads(c.Poll(1)...); string(l[0].header.To) != goalName || string(l[0].header.From) != guestName {
		t.Errorf("R4: a client's names are changed: %v", l)
	}
	// A client that begins anew does so with what it was given.
	h := same.retries(t, c)
	h.reads(c.Poll(1)...)
	c.Deliver(h.tells(), 1)
	g := same.byGuest(t)
	s.Deliver(g.wide(g.tells()), 1)
	g.reads(s.Poll(1)...)
	g.to = same.name
	s.Deliver(g.tells(), 1)
	if !c.State().Done || !s.State().Done {
		t.Errorf("R4: %v, %v", c.State(), s.State())
	}
}

func TestR4Datagrams(t *testing.T) {
	w := newHouse()
	c, s := w.dials(), w.accepts()
	for range 6 {
		for _, b := range c.Poll(1) {
			in := append(make([]byte, 0, 2*len(b)), b...)
			s.Deliver(in, 1)
			if !bytes.Equal(in, b) || slices.Max(in[len(b):2*len(b)]) > 0 {
				t.Error("R4: a datagram is changed")
			}
			clear(in)
			clear(b)
		}
		for _, b := range s.Poll(1) {
			in := append(make([]byte, 0, 2*len(b)), b...)
			c.Deliver(in, 1)
			clear(in)
			clear(b)
		}
		c.Tick()
		s.Tick()
	}
	if !c.State().Confirmed || !s.State().Confirmed {
		t.Error("R4: datagrams are kept")
	}
	passes := c.State().Passes
	clear(passes)
	if c.State().Passes[0].Ticket == 0 {
		t.Error("R4: what State tells is kept")
	}
	f := c.Facts()
	clear(f.Mine)
	clear(f.Theirs)
	if _, e := params.Read(c.Facts().Theirs); e != api.OK {
		t.Error("R4: what Facts tells is kept")
	}
}

func TestP22_2OfNil(t *testing.T) {
	var c *conn.Conn
	c.Deliver([]byte{1}, 1)
	c.Tick()
	c.Close(3)
	if c.Poll(1) != nil || c.Recv() != nil || c.Send(1) != api.ErrArg || c.Update() != api.ErrArg {
		t.Error("P22.2: of nil")
	}
	if !reflect.DeepEqual(c.Facts(), client.Facts{}) || !reflect.DeepEqual(c.State(), conn.State{}) {
		t.Error("P22.2: of nil")
	}
}
