package conn_test

import (
	"testing"

	"shibboleth/api"
	"shibboleth/conn"
	"shibboleth/frame"
)

func TestP22_2UpdateAheadOfBeingConfirmed(t *testing.T) {
	for _, stage := range []int{fresh, shaken, ended} {
		for _, x := range sides(t, stage) {
			if e := x.Update(); e != api.ErrState {
				t.Errorf("P22.2: %s at the stage %d updates: %d", x.what, stage, e)
			}
		}
	}
	// A client that is done, and acknowledged, but not confirmed.
	w := newHouse()
	c, h := w.client(t, ended)
	c.Send(w.token)
	l := at(h.reads(c.Poll(1)...), api.App)
	c.Deliver(h.sends(api.App, ack(l[0].number)), 1)
	if e := c.Update(); e != api.ErrState || c.State().Confirmed {
		t.Errorf("P22.2: a client that is not confirmed updates: %d", e)
	}
	c.Deliver(h.sends(api.App, frame.Frame{Kind: doneKind}), 1)
	if e := c.Update(); e != api.OK {
		t.Errorf("P22.2: a client that is confirmed updates: %d", e)
	}
}

// phase is that of the packets that a side sends: it is made to send one that asks for an ack.
func phase(t *testing.T, x side) (phase, number int) {
	t.Helper()
	if e := x.Send(x.w.token); e != api.OK {
		t.Fatalf("P22.2: Send: %d", e)
	}
	l := x.reads(x.Poll(1)...)
	if len(l) != 1 || l[0].level != api.App {
		t.Fatalf("P22.2: %s sends %v", x.what, l)
	}
	return l[0].header.Phase, l[0].number
}

// heard lets a packet be acknowledged.
func heard(x side, number int) {
	x.Deliver(x.sends(api.App, ack(number)), 1)
}

func TestP22_2Update(t *testing.T) {
	for _, x := range sides(t, met) {
		p, first := phase(t, x)
		if e := x.Update(); p != 0 || e != api.ErrState {
			t.Errorf("P22.2: %s updates ahead of an ack: %d", x.what, e)
		}
		heard(x, first)
		for generation := range 3 {
			if e := x.Update(); e != api.OK {
				t.Errorf("P22.2: %s, behind %d updates: %d", x.what, generation, e)
			}
			if e := x.Update(); e != api.ErrState {
				t.Errorf("P22.2: %s, behind %d updates, twice: %d", x.what, generation, e)
			}
			p, number := phase(t, x)
			if want := (generation + 1) % 2; p != want {
				t.Errorf("P22.2: %s, behind %d updates: the phase %d", x.what, generation+1, p)
			}
			heard(x, first) // of the generation ahead
			if e := x.Update(); e != api.ErrState {
				t.Errorf("P22.2: %s, behind an ack of the generation ahead: %d", x.what, e)
			}
			heard(x, number+5) // that was not sent
			if e := x.Update(); e != api.ErrState {
				t.Errorf("P22.2: %s, behind an ack of what was not sent: %d", x.what, e)
			}
			heard(x, number)
			first = number
		}
	}
}

// An ack of numbers that were not sent yet is none of the packets that get them.
func TestP22_2UpdateBehindAWideAck(t *testing.T) {
	for _, x := range sides(t, met) {
		_, number := phase(t, x)
		wide := frame.Frame{Kind: ackKind, Spans: []frame.Span{{From: number, To: number + 100}}}
		x.Deliver(x.sends(api.App, wide), 1)
		if e := x.Update(); e != api.OK {
			t.Errorf("P22.2: %s updates behind an ack: %d", x.what, e)
		}
		phase(t, x)
		x.Deliver(x.sends(api.App, frame.Frame{Kind: padding, Count: 1}), 1) // by which it reads with the next secret, too
		if e := x.Update(); e != api.ErrState {
			t.Errorf("P22.2: %s updates ahead of an ack: %d", x.what, e)
		}
	}
}

func TestP22_2UpdateBehindTheEnd(t *testing.T) {
	for _, end := range []func(x side){
		func(x side) { x.Close(1) },
		func(x side) { x.Deliver(x.sends(api.App, frame.Frame{Kind: closeKind}), 1) },
		func(x side) { x.Deliver(x.sends(api.App, datum(9, x.w.token)), 1) },
	} {
		for _, x := range sides(t, met) {
			_, number := phase(t, x)
			heard(x, number)
			end(x)
			if e := x.Update(); e != api.ErrState {
				t.Errorf("P22.2: %s that has ended updates: %d", x.what, e)
			}
		}
	}
}

// A side whose peer has changed writes with the next secret, too: then a packet of that generation has to be acknowledged.
func TestP22_2UpdateByThePeer(t *testing.T) {
	for _, x := range sides(t, met) {
		p, number := phase(t, x)
		heard(x, number)
		x.g.Update()
		x.Deliver(x.sends(api.App, frame.Frame{Kind: ping}), 1)
		if e := x.Update(); p != 0 || e != api.ErrState {
			t.Errorf("P22.2: %s updates ahead of a packet of the generation: %d", x.what, e)
		}
		l := x.reads(x.Poll(1)...)
		if len(l) != 1 || l[0].header.Phase != 1 || x.Update() != api.ErrState {
			t.Errorf("P22.2: %s behind an update of its peer: %v", x.what, l)
		}
		p, number = phase(t, x)
		heard(x, number)
		if e := x.Update(); p != 1 || e != api.OK {
			t.Errorf("P22.2: %s updates behind an ack: %d", x.what, e)
		}
		if p, _ = phase(t, x); p != 0 {
			t.Errorf("P22.2: %s writes in the phase %d", x.what, p)
		}
	}
}

// Layer 12's: where the peer has acknowledged without writing with the next secret itself.
func TestP22_2UpdateAheadOfThePeer(t *testing.T) {
	for _, x := range sides(t, met) {
		_, number := phase(t, x)
		heard(x, number)
		if x.Update() != api.OK {
			t.Fatal("P22.2: Update")
		}
		// What it seals now is acknowledged without being opened: with the secret of before.
		if e := x.Send(x.w.token); e != api.OK || len(x.Poll(1)) != 1 {
			t.Fatal("P22.2: Send")
		}
		heard(x, number+1)
		if e := x.Update(); e != api.ErrState {
			t.Errorf("P22.2: %s updates twice ahead of its peer: %d", x.what, e)
		}
	}
}

// Whoever updates when, what is sent is taken.
func TestP22_3BothUpdate(t *testing.T) {
	w := newHouse()
	w.guest.Data, w.host.Data = 200, 200
	c, s := w.dials(), w.accepts()
	for range 4 {
		carry(c, s)
	}
	ups := [2]int{}
	for i := range 60 {
		for j, x := range []*conn.Conn{c, s} {
			if i%(3+j) == 0 && x.Update() == api.OK {
				ups[j]++
			}
			sends(t, w, x, 1)
		}
		carry(c, s)
	}
	carry(c, s)
	if len(c.Recv()) != 60 || len(s.Recv()) != 60 || ups[0] < 10 || ups[1] < 10 {
		t.Errorf("P22.3: %v updates; %v, %v", ups, c.State(), s.State())
	}
}
