package conn_test

import (
	"testing"

	"shibboleth/api"
	"shibboleth/frame"
	"shibboleth/guard"
	"shibboleth/hello"
	"shibboleth/sched"
)

// A client's level 0 goes with its first packet at the level 2, and not ahead of it.
func TestP22_2Level0OfAClient(t *testing.T) {
	w := newHouse()
	c, h := w.client(t, shaken)
	c.Deliver(h.sends(api.Initial, frame.Frame{Kind: ping}), 1)
	l := h.reads(c.Poll(1)...)
	if len(acks(l, api.Initial)) != 1 || len(at(l, api.Handshake)) != 0 {
		t.Errorf("P22.2: a client that has nothing to say at the level 2: %v", l)
	}
	c.Deliver(h.sends(api.Initial, frame.Frame{Kind: ping}), 1)
	c.Deliver(h.sends(api.Handshake, frame.Frame{Kind: ping}), 1)
	l = h.reads(c.Poll(1)...)
	if len(acks(l, api.Initial)) != 1 || len(acks(l, api.Handshake)) != 1 || l[0].level != api.Initial {
		t.Errorf("P22.2: a client's first packet at the level 2: %v", l)
	}
	if answers(c, h.sends(api.Initial, frame.Frame{Kind: ping})) {
		t.Error("P22.2: behind it a client reads at the level 0")
	}
	c.Tick()
	for _, p := range h.reads(c.Poll(1)...) {
		if p.level == api.Initial {
			t.Errorf("P22.2: behind it a client writes at the level 0: %v", p)
		}
	}
}

// What it had to say at a level goes with it: nothing asks for it again.
func TestP22_2HelloIsNotSaidAgain(t *testing.T) {
	w := newHouse()
	c, h := w.client(t, shaken)
	c.Tick()
	if l := of(h.reads(c.Poll(1)...), crypto); len(l) != 1 {
		t.Errorf("P22.2: a hello that is not acknowledged: %v", l)
	}
	c.Deliver(h.sends(api.Handshake, frame.Frame{Kind: ping}), 1)
	h.reads(c.Poll(1)...)
	c.Tick()
	if l := of(h.reads(c.Poll(1)...), crypto); len(l) != 0 {
		t.Errorf("P22.2: a hello behind the level 0: %v", l)
	}

	s, g := w.server(t, shaken)
	s.Tick()
	s.Deliver(g.wide(g.sends(api.Initial, frame.Frame{Kind: ping})), 1)
	l := g.reads(s.Poll(1)...)
	if len(of(at(l, api.Initial), crypto)) != 1 || len(acks(l, api.Initial)) == 0 {
		t.Errorf("P22.2: a hello that is not acknowledged: %v", l)
	}
	s.Deliver(g.wide(g.sends(api.Initial, frame.Frame{Kind: ping})), 1)
	s.Deliver(g.sends(api.Handshake, frame.Frame{Kind: padding, Count: 1}), 1)
	s.Tick()
	l = g.reads(s.Poll(1)...)
	if len(at(l, api.Initial)) != 0 || len(of(at(l, api.Handshake), crypto)) != 4 {
		t.Errorf("P22.2: a server that has opened a packet at the level 2: %v", l)
	}
	if answers(s, g.sends(api.Initial, frame.Frame{Kind: ping})) {
		t.Error("P22.2: behind it a server reads at the level 0")
	}
}

// A packet at the level 2 that is passed over lets nothing go.
func TestP22_2Level0StaysAtAServer(t *testing.T) {
	w := newHouse()
	s, h := w.server(t, shaken)
	s.Deliver(h.row(api.Handshake, []byte{99}), 1)
	if !answers(s, h.wide(h.sends(api.Initial, frame.Frame{Kind: ping}))) {
		t.Error("P22.2: a server's level 0 went with a packet that is passed over")
	}
}

func TestP22_2Level1(t *testing.T) {
	w := withTicket()
	a := w.x.Secret()
	c, h := w.client(t, shaken)
	c.Send(a)
	if l := h.reads(c.Poll(1)...); len(of(at(l, api.Early), dataKind)) != 1 {
		t.Errorf("P22.2: a client that is not done sends early: %v", l)
	}
	c.Deliver(h.tells(), 1)
	c.Send(a)
	for range 2 {
		l := h.reads(c.Poll(1)...)
		if len(at(l, api.Early)) != 0 || len(of(at(l, api.App), dataKind)) != 2 {
			t.Errorf("P22.2: a client with the keys of the level 3: %v", l)
		}
		c.Tick()
	}

	// What was not sent there goes with it.
	w = withTicket()
	c, h = w.client(t, shaken)
	c.Send(a)
	c.Deliver(h.tells(), 1)
	if l := h.reads(c.Poll(1)...); len(at(l, api.Early)) != 0 || len(of(at(l, api.App), dataKind)) != 1 {
		t.Errorf("P22.2: a client with the keys of the level 3: %v", l)
	}

	w = withTicket()
	s, g := w.server(t, shaken)
	s.Deliver(g.sends(api.Early, datum(0, a)), 1)
	if l := s.Recv(); len(l) != 1 || !l[0].Early {
		t.Errorf("P22.2: a server that is not done: %v", l)
	}
	s.Deliver(g.tells(), 1)
	s.Deliver(g.sends(api.Early, datum(1, a)), 1)
	if l := s.Recv(); len(l) != 0 || !s.State().Done {
		t.Errorf("P22.2: a server that is done: %v", l)
	}
}

func TestP22_2Level2OfAServer(t *testing.T) {
	w := newHouse()
	s, h := w.server(t, shaken)
	if !answers(s, h.sends(api.Handshake, frame.Frame{Kind: ping})) {
		t.Error("P22.2: a server that is not done does not read at the level 2")
	}
	s.Deliver(h.tells(), 1)
	l := h.reads(s.Poll(1)...)
	if len(at(l, api.App)) != len(l) || !s.State().Done || !s.State().Confirmed {
		t.Errorf("P22.2: a server that is done writes %v", l)
	}
	if answers(s, h.sends(api.Handshake, frame.Frame{Kind: ping})) {
		t.Error("P22.2: a server that is done reads at the level 2")
	}
	s.Tick()
	if l := h.reads(s.Poll(1)...); len(at(l, api.App)) != len(l) || len(l) == 0 {
		t.Errorf("P22.2: a server that is done writes %v", l)
	}
}

func TestP22_2Level2OfAClient(t *testing.T) {
	w := newHouse()
	c, h := w.client(t, ended)
	for range 2 {
		l := of(at(h.reads(c.Poll(1)...), api.Handshake), crypto)
		if len(l) != 1 || l[0].Data[0] != 20 || c.State().Confirmed || !c.State().Done {
			t.Errorf("P22.2: a client that is not confirmed says %v", l)
		}
		c.Tick()
	}
	if !answers(c, h.sends(api.Handshake, frame.Frame{Kind: ping})) {
		t.Error("P22.2: a client that is not confirmed does not read at the level 2")
	}
	c.Deliver(h.sends(api.App, frame.Frame{Kind: doneKind}), 1)
	if !c.State().Confirmed {
		t.Error("P22.2: a client with a done frame is not confirmed")
	}
	c.Tick()
	l := h.reads(c.Poll(1)...)
	if len(l) != 1 || l[0].level != api.App || len(acks(l, api.App)) != 1 || len(l[0].frames) != 1 {
		t.Errorf("P22.2: a client that is confirmed says %v", l)
	}
	if answers(c, h.sends(api.Handshake, frame.Frame{Kind: ping})) {
		t.Error("P22.2: a client that is confirmed reads at the level 2")
	}
}

// A done frame is a server's; at a server it does nothing.
func TestP22_2ADoneFrameAtAServer(t *testing.T) {
	w := newHouse()
	s, h := w.server(t, met)
	before := s.State()
	s.Deliver(h.sends(api.App, frame.Frame{Kind: doneKind}, frame.Frame{Kind: tokenKind, Term: h.x.Secret()}), 1)
	if x := s.State(); x.Fail != api.OK || x.Token != before.Token || !x.Confirmed {
		t.Errorf("P22.2: %v", x)
	}
}

// What came behind the message with which a level goes is done, as far as it came with it.
func TestP22_2BehindTheLastMessage(t *testing.T) {
	more := hello.Write(hello.Msg{Kind: 20, Mac: 1})
	for _, want := range []api.Errno{api.OK, api.ErrProto} {
		w := newHouse()
		s, h := w.server(t, shaken)
		msg := h.says[0].Data
		f := frame.Frame{Kind: crypto, Data: msg}
		if want == api.OK {
			s.Deliver(h.sends(api.Handshake, f, f), 1)
		} else {
			s.Deliver(h.sends(api.Handshake, f, frame.Frame{Kind: crypto, At: len(msg), Data: more}), 1)
		}
		if x := s.State(); x.Fail != want || !x.Done {
			t.Errorf("P22.2: %v, not %d", x, want)
		}
	}
}

// Who reads with the first secrets of another goal, or with the other side's, opens nothing.
func TestP22_2WhoseFirstSecrets(t *testing.T) {
	w := newHouse()
	for _, x := range []struct {
		goal string
		own  bool
		is   bool
	}{{goalName, false, true}, {goalName, true, false}, {"hhhhhhhh", false, false}, {guestName, false, false}} {
		c, h := w.client(t, fresh)
		c.Poll(1)
		mine, theirs := sched.First(w.x, []byte(x.goal))
		if x.own {
			theirs = mine
		}
		h.g = guard.New(w.x)
		h.g.Install(api.Initial, 0, theirs)
		if is := answers(c, h.sends(api.Initial, frame.Frame{Kind: ping})); is != x.is {
			t.Errorf("P22.1: with the secrets of %q, the client's %t: %t", x.goal, x.own, is)
		}
		s, g := w.server(t, fresh)
		mine, theirs = sched.First(w.x, []byte(x.goal))
		if x.own {
			mine = theirs
		}
		g.g = guard.New(w.x)
		g.g.Install(api.Initial, 0, mine)
		if is := answers(s, g.wide(g.sends(api.Initial, frame.Frame{Kind: ping}))); is != x.is {
			t.Errorf("P22.1: with the secrets of %q, the server's %t: %t", x.goal, x.own, is)
		}
	}
}
