package conn_test

import (
	"fmt"
	"reflect"
	"slices"
	"testing"

	"shibboleth/api"
	"shibboleth/conn"
	"shibboleth/frame"
	"shibboleth/guard"
	"shibboleth/header"
	"shibboleth/hello"
)

// side is a side at a stage, and its peer, that is played by hand.
type side struct {
	what string
	*conn.Conn
	*hand
	w *house
}

// sides are a client's and a server's, at a stage each.
func sides(t *testing.T, stage int) []side {
	t.Helper()
	w, v := newHouse(), newHouse()
	c, h := w.client(t, stage)
	s, g := v.server(t, stage)
	return []side{{"a client", c, h, w}, {"a server", s, g, v}}
}

// answers: does a side acknowledge a datagram, or end by it?
func answers(c *conn.Conn, b []byte) bool {
	c.Poll(1)
	c.Deliver(b, 1)
	return len(c.Poll(1)) > 0
}

// level is where both can read and write at a stage.
func level(stage int) int {
	return [...]int{fresh: api.Initial, shaken: api.Handshake, ended: api.Handshake, met: api.App}[stage]
}

func TestP22_2WhatIsPassedOver(t *testing.T) {
	bare := []frame.Frame{{Kind: ping}}
	all := []struct {
		what string
		make func(x side, level int) []byte
		is   bool
	}{
		{"as it should be", func(x side, level int) []byte { return x.sends(level, bare...) }, true},
		{"another version", func(x side, level int) []byte {
			x.hand.version = 2
			return x.sends(level, bare...)
		}, false},
		{"another name", func(x side, level int) []byte {
			x.to = []byte("eight...")
			return x.sends(level, bare...)
		}, false},
		{"another key", func(x side, level int) []byte {
			h := *x.hand
			h.g = guard.New(x.x)
			h.g.Install(level, 0, x.x.Secret())
			return h.sends(level, bare...)
		}, false},
		{"the hash of a content", func(x side, level int) []byte {
			content, n := x.content(bare...)
			return x.sealed(x.header(level), x.x.Make(hashKind, []api.Term{content}), n)
		}, false},
		{"the hash of a text", func(x side, level int) []byte {
			return x.sealed(x.header(level), x.x.Make(hashKind, []api.Term{x.x.Text([]byte{ping})}), 1)
		}, false},
		{"a text alone", func(x side, level int) []byte {
			return x.sealed(x.header(level), x.x.Text([]byte{ping}), 1)
		}, false},
		{"an empty row", func(x side, level int) []byte {
			return x.sealed(x.header(level), x.x.Make(rowKind, nil), 1)
		}, false},
		{"a row of a row", func(x side, level int) []byte {
			content, n := x.content(bare...)
			return x.sealed(x.header(level), x.x.Make(rowKind, []api.Term{content}), n)
		}, false},
		{"a row of a secret", func(x side, level int) []byte {
			return x.sealed(x.header(level), x.x.Make(rowKind, []api.Term{x.x.Secret()}), 1)
		}, false},
		{"no frames", func(x side, level int) []byte { return x.row(level, nil) }, false},
		{"bytes that are no frames", func(x side, level int) []byte { return x.row(level, []byte{ping, 99}) }, false},
		{"two paddings are one", func(x side, level int) []byte { return x.row(level, []byte{ping, 0, 0}) }, true},
		{"1201 bytes", func(x side, level int) []byte { return x.row(level, append(make([]byte, 1200), ping)) }, false},
		{"a term that no frame carries", func(x side, level int) []byte {
			return x.row(level, []byte{ping}, x.x.Secret())
		}, false},
	}
	for _, stage := range []int{fresh, shaken, met} {
		for _, one := range all {
			for _, x := range sides(t, stage) {
				l := level(stage)
				if l == api.App && one.what == "another version" {
					continue // a short one has none
				}
				b := one.make(x, l)
				x.Tick()
				if is := answers(x.Conn, b); is != one.is {
					t.Errorf("P22.2: %s, %s, at the level %d: %t", x.what, one.what, l, is)
				}
				if s := x.State(); s.Fail != api.OK || s.Closed || len(s.Peer) == 0 && x.what == "a client" && one.is {
					t.Errorf("P22.2: %s, %s, at the level %d: %v", x.what, one.what, l, s)
				}
			}
		}
	}
}

// row is a packet of a row of a text and terms.
func (h *hand) row(level int, b []byte, terms ...api.Term) []byte {
	h.t.Helper()
	return h.sealed(h.header(level), h.x.Make(rowKind, append([]api.Term{h.x.Text(b)}, terms...)), min(len(b), 1200))
}

// The terms that frames carry stand behind their text, all and in order.
func TestP22_2TermsOfAContent(t *testing.T) {
	for _, x := range sides(t, met) {
		a, b := x.x.Secret(), x.x.Secret()
		l := []frame.Frame{datum(0, a), datum(1, b)}
		text, _ := frame.Write(l)
		for _, terms := range [][]api.Term{nil, {a}, {b}, {b, a}, {a, a}, {a, b, b}, {a, b, a}} {
			if answers(x.Conn, x.row(api.App, text, terms...)) || len(x.Recv()) != 0 {
				t.Errorf("P22.2: %s: the terms %v stand behind those of %v", x.what, terms, l)
			}
		}
		if !answers(x.Conn, x.row(api.App, text, a, b)) || len(x.Recv()) != 2 {
			t.Errorf("P22.2: %s: both terms", x.what)
		}
	}
	// A piece that is not a whole message carries none.
	w := newHouse()
	s, h := w.accepts(), w.byGuest(t)
	msg := h.says[0].Data
	m, _ := hello.Read(msg)
	for _, b := range [][]byte{msg[:20], msg[20:]} {
		f := frame.Frame{Kind: crypto, At: len(msg) - len(b), Data: b}
		if len(b) == 20 {
			f.At = 0
		}
		text, _ := frame.Write([]frame.Frame{f})
		if answers(s, h.row(api.Initial, text, m.Random)) {
			t.Errorf("P22.2: a piece of a message carries a term")
		}
		if !answers(s, h.row(api.Initial, text)) {
			t.Errorf("P22.2: a piece of a message is passed over")
		}
	}
	if s.Facts().Flight == 0 {
		t.Error("P22.2: a hello in two pieces")
	}
}

func TestP22_2NamesAtAServer(t *testing.T) {
	for _, again := range []bool{false, true} {
		first := goalName
		if again {
			first = "rrrrrrrr"
		}
		for _, to := range []string{goalName, "rrrrrrrr", hostName, guestName, "", "ssssssss!"} {
			w := newHouse()
			w.again = again
			s, h := w.accepts(), w.byGuest(t)
			h.to = []byte(to)
			want := to == first || to == hostName
			if is := answers(s, h.wide(h.sends(api.Initial, frame.Frame{Kind: ping}))); is != want {
				t.Errorf("P22.2: a server, behind a Retry %t: a packet of the level 0 to %q: %t", again, to, is)
			}
			w = withTicket()
			w.again = again
			s, h = w.server(t, shaken)
			h.to = []byte(to)
			s.Deliver(h.sends(api.Early, datum(0, w.token)), 1)
			if is := len(s.Recv()) == 1; is != want {
				t.Errorf("P22.2: a server, behind a Retry %t: a packet of the level 1 to %q: %t", again, to, is)
			}
			if is := answers(s, h.sends(api.Handshake, frame.Frame{Kind: ping})); is != (to == hostName) {
				t.Errorf("P22.2: a server, behind a Retry %t: a packet of the level 2 to %q: %t", again, to, is)
			}
		}
	}
	w := newHouse()
	c, h := w.client(t, fresh)
	h.to = w.goal
	if c.Poll(1); answers(c, h.sends(api.Initial, frame.Frame{Kind: ping})) {
		t.Error("P22.2: a client takes a packet to its goal")
	}
}

// What comes is done up to the first packet that has no form.
func TestP22_2UpToWhatHasNoForm(t *testing.T) {
	for _, x := range sides(t, shaken) {
		good := func() []byte { return x.sends(api.Handshake, frame.Frame{Kind: ping}) }
		for _, bad := range [][]byte{{0}, {0xf0}, {0x80}, {0xc0}, good()[:20]} {
			in := x.State().In
			b := append(good(), bad...)
			if !answers(x.Conn, b) {
				t.Errorf("P22.2: %s: a packet ahead of %x is passed over", x.what, bad)
			}
			if answers(x.Conn, append(bad, good()...)) {
				t.Errorf("P22.2: %s: a packet behind %x is taken", x.what, bad)
			}
			if got := x.State().In - in; got != 2*len(b) {
				t.Errorf("P22.2: %s: %d bytes came, not %d", x.what, got, 2*len(b))
			}
		}
		passed := good()
		answers(x.Conn, passed)
		if !answers(x.Conn, append(passed, good()...)) {
			t.Errorf("P22.2: %s: a packet behind one that is passed over is passed over", x.what)
		}
		if answers(x.Conn, nil) || answers(x.Conn, make([]byte, 3000)) {
			t.Errorf("P22.2: %s: bytes", x.what)
		}
	}
}

// some is a frame of each kind that a hand can send.
func (h *hand) some() []frame.Frame {
	return []frame.Frame{
		{Kind: padding, Count: 3},
		{Kind: ping},
		ack(90),
		{Kind: crypto, At: 500, Data: []byte{1}},
		{Kind: tokenKind, Term: h.x.Secret()},
		datum(8, h.x.Secret()),
		{Kind: closeKind, Count: 7},
		{Kind: doneKind},
	}
}

func TestP22_2FramesOfALevel(t *testing.T) {
	may := [api.Levels][]int{
		api.Initial:   {padding, ping, ackKind, crypto, closeKind},
		api.Early:     {padding, ping, dataKind},
		api.Handshake: {padding, ping, ackKind, crypto, closeKind},
		api.App:       {padding, ping, ackKind, crypto, tokenKind, dataKind, closeKind, doneKind},
	}
	try := func(x side, level int, f frame.Frame) {
		x.Poll(1)
		x.Deliver(x.sends(level, frame.Frame{Kind: ping}, f, frame.Frame{Kind: ping}), 1)
		want, closed := api.OK, false
		if !slices.Contains(may[level], f.Kind) {
			want = api.ErrProto
		} else if f.Kind == closeKind {
			closed = true
		}
		if s := x.State(); s.Fail != want || s.Closed != closed {
			t.Errorf("P22.2: %s: a frame of the kind %d at the level %d: %d, %t", x.what, f.Kind, level, s.Fail, s.Closed)
		}
	}
	for i := range newHouse().byHost(t).some() {
		for _, stage := range []int{fresh, shaken, met} {
			for _, x := range sides(t, stage) {
				try(x, level(stage), x.some()[i])
			}
		}
		w := withTicket()
		s, h := w.server(t, shaken)
		try(side{"a server", s, h, w}, api.Early, h.some()[i])
	}
}

// A packet's number is acknowledged, if one of its frames is neither padding nor ack nor close, but at the level 1.
func TestP22_2WhatIsAcknowledged(t *testing.T) {
	asks := func(l []frame.Frame) bool {
		return slices.ContainsFunc(l, func(f frame.Frame) bool { return f.Kind != padding && f.Kind != ackKind })
	}
	for _, stage := range []int{fresh, shaken, met} {
		for _, x := range sides(t, stage) {
			l := level(stage)
			x.reads(x.Poll(1)...)
			rows := [][]frame.Frame{{{Kind: padding, Count: 30}}, {ack(0)}, {ack(0), {Kind: padding, Count: 1}}, {{Kind: ping}}, {{Kind: padding, Count: 1}, {Kind: ping}, ack(0)}}
			for _, f := range x.some() {
				if l == api.App && f.Kind != closeKind || f.Kind == crypto {
					rows = append(rows, []frame.Frame{f}, []frame.Frame{ack(0), f, ack(1)})
				}
			}
			for _, row := range rows {
				number := x.next[l]
				x.Deliver(x.sends(l, row...), 1)
				got := x.reads(x.Poll(1)...)
				spans := acks(got, l)
				if !asks(row) {
					if len(got) != 0 {
						t.Errorf("P22.2: %s answers %v at the level %d: %v", x.what, row, l, got)
					}
					continue
				}
				has := slices.ContainsFunc(spans, func(s frame.Span) bool { return s.From <= number && number <= s.To })
				if len(got) != 1 || !has {
					t.Errorf("P22.2: %s answers %v at the level %d: %v", x.what, row, l, got)
				}
				if len(x.Poll(1)) != 0 {
					t.Errorf("P22.2: %s acknowledges twice", x.what)
				}
			}
		}
	}
	w := withTicket()
	s, h := w.server(t, shaken)
	for i := range 3 {
		s.Deliver(h.sends(api.Early, frame.Frame{Kind: ping}, datum(i, w.token)), 1)
		if l := s.Poll(1); len(l) != 0 {
			t.Errorf("P22.2: a packet of the level 1 is acknowledged: %v", h.reads(l...))
		}
	}
}

// An ack tells just the numbers of the packets that asked for it, in spans.
func TestP22_2SpansOfAnAck(t *testing.T) {
	for _, x := range sides(t, met) {
		x.reads(x.Poll(1)...)
		before := x.next[api.App]
		var want []frame.Span
		for i := range 50 {
			x.next[api.App] = before + 10 + 3*i
			if i%5 == 4 {
				x.Deliver(x.sends(api.App, frame.Frame{Kind: padding, Count: 1}), 1)
				continue
			}
			x.Deliver(x.sends(api.App, frame.Frame{Kind: ping}), 1)
			want = slices.Insert(want, 0, frame.Span{From: before + 10 + 3*i, To: before + 10 + 3*i})
		}
		got := acks(x.reads(x.Poll(1)...), api.App)
		if !reflect.DeepEqual(got, want[:32]) {
			t.Errorf("P22.2: %s acknowledges %v, not %v", x.what, got, want[:32])
		}
		// One that comes late closes a gap.
		x.next[api.App] = want[0].To - 1
		x.Deliver(x.sends(api.App, frame.Frame{Kind: ping}), 1)
		x.next[api.App] = want[0].To + 1
		x.Deliver(x.sends(api.App, frame.Frame{Kind: ping}), 1)
		got = acks(x.reads(x.Poll(1)...), api.App)
		if got[0] != (frame.Span{From: want[0].To - 1, To: want[0].To + 1}) {
			t.Errorf("P22.2: %s acknowledges %v", x.what, got)
		}
	}
}

// Frames are done in order, up to the one by which the side fails.
func TestP22_2InOrder(t *testing.T) {
	for _, x := range sides(t, met) {
		a, b := x.x.Secret(), x.x.Secret()
		x.Deliver(x.sends(api.App, datum(3, a), datum(1, b), datum(9, a), datum(0, a)), 1)
		want := []conn.Got{{Number: 3, Term: a}, {Number: 1, Term: b}}
		if got := x.Recv(); !reflect.DeepEqual(got, want) || x.State().Fail != api.ErrProto {
			t.Errorf("P22.2: %s takes %v, and fails with %d", x.what, got, x.State().Fail)
		}
	}
	for _, x := range sides(t, met) {
		a := x.x.Secret()
		first := x.sends(api.App, datum(3, a), frame.Frame{Kind: closeKind}, datum(1, a), datum(9, a))
		x.Deliver(first, 1)
		x.Deliver(x.sends(api.App, datum(2, a)), 1)
		want := []conn.Got{{Number: 3, Term: a}}
		if got, s := x.Recv(), x.State(); !reflect.DeepEqual(got, want) || s.Fail != api.OK || !s.Closed {
			t.Errorf("P22.2: %s takes %v, and is %v", x.what, got, s)
		}
	}
}

// Pieces of messages that may not be end in layer 13's errors, messages in those of the layers 20 and 21.
func TestP22_2MessagesThatMayNotBe(t *testing.T) {
	all := []struct {
		what string
		l    []frame.Frame
		want api.Errno
	}{
		{"a piece too far behind", []frame.Frame{{Kind: crypto, At: 5000, Data: []byte{1}}}, api.ErrLong},
		{"two pieces that differ", []frame.Frame{{Kind: crypto, At: 900, Data: []byte{1}}, {Kind: crypto, At: 900, Data: []byte{2}}}, api.ErrProto},
		{"a length above 2000", []frame.Frame{{Kind: crypto, Data: []byte{1, 0, 0xff, 0}}}, api.ErrLong},
		{"a kind that is none", []frame.Frame{{Kind: crypto, Data: []byte{99, 0, 0, 0}}}, api.ErrForm},
		{"a message of another one", []frame.Frame{{Kind: crypto, Data: hello.Write(hello.Msg{Kind: 11, Name: "n"})}}, api.ErrProto},
		{"half a message", []frame.Frame{{Kind: crypto, Data: []byte{1, 0}}}, api.OK},
	}
	for _, one := range all {
		for _, x := range sides(t, fresh) {
			x.Deliver(x.sends(api.Initial, one.l...), 1)
			if s := x.State(); s.Fail != one.want {
				t.Errorf("P22.2: %s: %s: %d, not %d", x.what, one.what, s.Fail, one.want)
			}
		}
	}
}

// What a header says of where a packet comes from counts at a client for the first one that is opened.
func TestP22_2Peer(t *testing.T) {
	w := newHouse()
	c, h := w.client(t, fresh)
	h.reads(c.Poll(1)...)
	h.own = []byte("first...")
	c.Deliver(h.row(api.Initial, []byte{99}), 1)
	if s := c.State(); len(s.Peer) != 0 {
		t.Errorf("P22.2: what opens to nothing tells a peer: %v", s)
	}
	for _, name := range []string{"second..", "third..."} {
		h.own = []byte(name)
		c.Deliver(h.sends(api.Initial, frame.Frame{Kind: ping}), 1)
		p, _ := header.Split(c.Poll(1)[0])
		if s := c.State(); string(s.Peer) != "second.." || string(p[0].Header.To) != "second.." {
			t.Errorf("P22.2: a client's peer is %s, its packets go to %s", s.Peer, p[0].Header.To)
		}
	}
	// The server's params tell another name.
	h.own = w.name
	c.Deliver(h.tells(), 1)
	if s := c.State(); s.Fail != api.ErrProto {
		t.Errorf("P22.2: %v", s)
	}
	s, g := w.server(t, shaken)
	g.own = []byte("another.")
	if !answers(s, g.sends(api.Handshake, frame.Frame{Kind: ping})) || string(s.State().Peer) != guestName {
		t.Errorf("P22.2: a server's peer is %s", s.State().Peer)
	}
}

// A peer's name that has not 8 bytes is none of a short header: then nothing goes at the level 3.
func TestP22_2APeerOfAnotherSize(t *testing.T) {
	for _, size := range []int{0, 7, 20} {
		w := newHouse()
		w.name = make([]byte, size)
		c, h := w.client(t, ended)
		h.reads(c.Poll(1)...)
		if s := c.State(); !s.Done || s.Fail != api.OK {
			t.Fatalf("P22.2: %v", s)
		}
		c.Send(w.token)
		c.Deliver(h.tells(), 1)
		c.Close(5)
		l := h.reads(c.Poll(1)...)
		if len(l) != 1 || l[0].level != api.Handshake || len(of(l, closeKind)) != 1 {
			t.Errorf("P22.2: a peer's name of %d bytes: %v", size, l)
		}
		if fmt.Sprint(c.Poll(1)) != "[]" {
			t.Error("P22.2: more")
		}
	}
}

// At a time below 0 no message may come to a server: then nothing does.
func TestP22_2BelowTime0(t *testing.T) {
	w := newHouse()
	c, s := w.dials(), w.accepts()
	l := c.Poll(-5)
	s.Deliver(l[0], -1)
	if x := s.State(); x.Fail != api.OK || len(s.Poll(-1)) != 0 || x.In != len(l[0]) {
		t.Errorf("P22.2: %v", x)
	}
	s.Deliver(l[0], 0)
	for _, b := range s.Poll(-1) {
		c.Deliver(b, -1)
	}
	if x := c.State(); !x.Done {
		t.Errorf("P22.2: %v", x)
	}
}
