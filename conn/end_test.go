package conn_test

import (
	"fmt"
	"testing"

	"shibboleth/api"
	"shibboleth/conn"
	"shibboleth/frame"
	"shibboleth/hello"
)

// greatest is the greatest level at which a side can write a close at a stage.
func greatest(x side, stage int) int {
	if x.what == "a server" && stage > fresh {
		return api.App
	}
	return [...]int{fresh: api.Initial, shaken: api.Handshake, ended: api.App, met: api.App}[stage]
}

// bye is what a side says in the end; a server that nothing came to can't.
func bye(t *testing.T, x side, level, code int) {
	t.Helper()
	if x.State().In == 0 {
		x.Deliver(make([]byte, 400), 1)
	}
	l := x.Poll(1)
	if len(l) != 1 {
		t.Fatalf("P22.2: %s ends with %d datagrams", x.what, len(l))
	}
	read(x)
	got := x.reads(l...)
	last := of(got, closeKind)
	if len(got) != 1 || got[0].level != level || len(last) != 1 || last[0].Count != code {
		t.Errorf("P22.2: %s ends at the level %d with %v, not %d at %d", x.what, got[0].level, got, code, level)
	}
	for _, f := range got[0].frames {
		if f.Kind != closeKind && f.Kind != padding {
			t.Errorf("P22.2: %s ends with %v", x.what, f)
		}
	}
	silent(t, x)
}

// read lets who is played by hand read at the level 3, where a side may end though its peer is not done yet.
func read(x side) {
	f := x.Facts()
	if x.what == "a client" {
		x.g.Install(api.App, f.Client, 0)
	} else {
		x.g.Install(api.App, f.Server, 0)
	}
}

// silent holds that a side that has ended says nothing any more, and takes nothing.
func silent(t *testing.T, x side) {
	t.Helper()
	before := x.State()
	for _, l := range []int{api.Initial, api.Handshake, api.App} {
		if _, write := x.g.Has(l); !write {
			continue
		}
		in := x.sends(l, frame.Frame{Kind: ping}, frame.Frame{Kind: closeKind, Count: 9})
		before.In += len(in)
		x.Deliver(in, 1)
		x.Tick()
		if b := x.Poll(1); len(b) != 0 {
			t.Errorf("P22.2: %s that has ended says more", x.what)
		}
	}
	if after := x.State(); fmt.Sprint(before) != fmt.Sprint(after) {
		t.Errorf("P22.2: %s that has ended was %v, is %v", x.what, before, after)
	}
	if x.Send(x.w.token) != api.ErrState || x.Send(0) != api.ErrArg || x.Update() != api.ErrState || len(x.Recv()) != 0 {
		t.Errorf("P22.2: %s that has ended", x.what)
	}
}

func TestP22_2Close(t *testing.T) {
	codes := []struct{ code, want int }{{0, 0}, {5, 5}, {-1, 0}, {-1 << 62, 0}, {1 << 20, 1 << 20}, {1<<20 + 1, 1 << 20}, {1<<63 - 1, 1 << 20}}
	for _, stage := range []int{fresh, shaken, ended, met} {
		for _, code := range codes {
			for _, x := range sides(t, stage) {
				if x.Close(code.code); !x.State().Closed || x.State().Fail != api.OK {
					t.Errorf("P22.2: %s that is closed is %v", x.what, x.State())
				}
				x.Close(77)
				bye(t, x, greatest(x, stage), code.want)
				x.Close(78)
				silent(t, x)
			}
		}
	}
}

func TestP22_2Fail(t *testing.T) {
	for _, stage := range []int{fresh, shaken, met} {
		for _, x := range sides(t, stage) {
			x.Send(x.w.token)
			l := level(stage)
			x.Deliver(x.sends(l, frame.Frame{Kind: ping}, frame.Frame{Kind: crypto, Data: []byte{1, 0, 0xff, 0}, At: stagedAt(x, stage)}), 1)
			if s := x.State(); s.Fail != api.ErrLong || s.Closed {
				t.Fatalf("P22.2: %s that has failed is %v", x.what, s)
			}
			bye(t, x, greatest(x, stage), int(api.ErrLong))
			if x.Close(3); !x.State().Closed || x.State().Fail != api.ErrLong {
				t.Errorf("P22.2: %s that has failed and is closed is %v", x.what, x.State())
			}
			silent(t, x)
		}
	}
	// Closed ahead of its being polled, it still tells why it failed.
	for _, x := range sides(t, met) {
		x.Deliver(x.sends(api.App, datum(9, x.w.token)), 1)
		x.Close(3)
		bye(t, x, api.App, int(api.ErrProto))
	}
}

// stagedAt is where a side's peer goes on with its messages.
func stagedAt(x side, stage int) int { return x.at[level(stage)] }

func TestP22_2TakesAClose(t *testing.T) {
	for _, stage := range []int{fresh, shaken, met} {
		for _, x := range sides(t, stage) {
			x.Send(x.w.token)
			x.Deliver(x.sends(level(stage), frame.Frame{Kind: closeKind, Count: 5}), 1)
			if s := x.State(); !s.Closed || s.Fail != api.OK {
				t.Errorf("P22.2: %s that takes a close is %v", x.what, s)
			}
			silent(t, x)
			x.Close(4)
			silent(t, x)
		}
	}
}

// Both sides close, and each other.
func TestP22_2CloseComes(t *testing.T) {
	for _, first := range []bool{true, false} {
		for rounds := range 5 {
			w := newHouse()
			c, s := w.dials(), w.accepts()
			for range rounds {
				carry(c, s)
			}
			x, y := c, s
			if !first {
				x, y = s, c
			}
			x.Close(5)
			carry(c, s)
			carry(c, s)
			// A client that is done ends where a server that is not can't read.
			if want := rounds != 1 || !first; y.State().Closed != want && rounds > 0 {
				t.Errorf("P22.2: %d rounds, a client %t: %v", rounds, first, y.State())
			}
		}
	}
}

// What was taken ahead of the end is still told.
func TestP22_2RecvBehindTheEnd(t *testing.T) {
	for _, x := range sides(t, met) {
		h := x.x.Secret()
		x.Deliver(x.sends(api.App, datum(0, h)), 1)
		x.Close(1)
		if got := x.Recv(); len(got) != 1 || got[0] != (conn.Got{Term: h}) {
			t.Errorf("P22.2: %s took %v", x.what, got)
		}
	}
}

// A client that fails by what a server says tells why: where it can write early data, too, not at their level.
func TestP22_2WhyAClientFails(t *testing.T) {
	w := withTicket()
	c, h := w.client(t, fresh)
	h.reads(c.Poll(1)...)
	m, _ := hello.Read(h.says[0].Data)
	m.Version = 9
	h.says[0].Data = hello.Write(m)
	c.Deliver(h.piece(h.says[0]), 1)
	if s := c.State(); s.Fail != api.ErrVersion {
		t.Errorf("P22.2: %v", s)
	}
	bye(t, side{"a client", c, h, w}, api.Initial, int(api.ErrVersion))

	w = newHouse()
	w.host.Name = "another"
	c, h = w.client(t, shaken)
	c.Deliver(h.tells(), 1)
	if s := c.State(); s.Fail != api.ErrName || s.Done {
		t.Errorf("P22.2: %v", s)
	}
	bye(t, side{"a client", c, h, w}, api.Handshake, int(api.ErrName))
}

// A server that fails by a hello tells why, in the room that it has.
func TestP22_2WhyAServerFails(t *testing.T) {
	w := newHouse()
	w.guest.Versions = []int{1, 3}
	w.host.Versions = []int{2}
	s, h := w.accepts(), w.byGuest(t)
	s.Deliver(h.tells(), 1)
	if x := s.State(); x.Fail != api.ErrVersion || x.Done {
		t.Errorf("P22.2: %v", x)
	}
	bye(t, side{"a server", s, h, w}, api.Initial, int(api.ErrVersion))

	w = newHouse()
	s, h = w.server(t, shaken)
	m, _ := hello.Read(h.says[0].Data)
	m.Mac = w.token
	h.says[0].Data = hello.Write(m)
	s.Deliver(h.tells(), 1)
	if x := s.State(); x.Fail != api.ErrSeal || x.Done {
		t.Errorf("P22.2: %v", x)
	}
	bye(t, side{"a server", s, h, w}, api.App, int(api.ErrSeal))
}

// A version that is none can be read by nobody, and written to nobody.
func TestP22_2AVersionThatIsNone(t *testing.T) {
	for _, v := range []int{0, -1, 1 << 32} {
		w := newHouse()
		h := w.byGuest(t)
		w.version = v
		s := w.accepts()
		s.Deliver(h.wide(h.tells()), 1)
		s.Close(1)
		s.Tick()
		if l := s.Poll(1); len(l) != 0 || !s.State().Closed || s.State().Version != v {
			t.Errorf("P22.2: a server of the version %d: %d datagrams", v, len(l))
		}
	}
}

// Where the table has no room, nothing is sent and nothing breaks; what is due stays due.
func TestP22_2NoRoomInTheTable(t *testing.T) {
	for rounds := range 5 {
		for left := range 12 {
			w := newHouse()
			c, s := w.dials(), w.accepts()
			for range rounds {
				carry(c, s)
			}
			h := w.x.Secret()
			c.Send(h)
			fill(w.x, left)
			for range 4 {
				carry(c, s)
				c.Update()
				s.Update()
			}
			c.Close(1)
			s.Close(2)
			carry(c, s)
			if w.x.Size() > api.MaxTerms || c.State().Out < 0 {
				t.Errorf("P22.2: %v", c.State())
			}
		}
	}
	w := newHouse()
	c, s := w.dials(), w.accepts()
	for range 5 {
		carry(c, s)
	}
	h := w.x.Secret()
	fill(w.x, 0)
	if c.Send(h) != api.OK || len(c.Poll(1)) != 0 || c.State().Fail != api.OK {
		t.Errorf("P22.2: %v", c.State())
	}
	_ = s
}
