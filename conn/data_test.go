package conn_test

import (
	"reflect"
	"testing"

	"shibboleth/api"
	"shibboleth/conn"
	"shibboleth/frame"
)

// sends sends so many new terms, each of which is taken to be sent.
func sends(t *testing.T, w *house, x *conn.Conn, many int) []api.Term {
	t.Helper()
	var l []api.Term
	for range many {
		h := w.x.Secret()
		if e := x.Send(h); e != api.OK {
			t.Errorf("P22.2: Send: %d", e)
		}
		l = append(l, h)
	}
	return l
}

func TestP22_2Send(t *testing.T) {
	for _, stage := range []int{fresh, shaken, ended, met} {
		for _, x := range sides(t, stage) {
			for _, h := range []api.Term{0, -1, api.Term(x.x.Size() + 1), api.MaxTerms + 1} {
				if e := x.Send(h); e != api.ErrArg {
					t.Errorf("P22.2: %s sends %d: %d", x.what, h, e)
				}
			}
		}
	}
	for _, x := range sides(t, met) {
		l := sends(t, x.w, x.Conn, 9)
		if e := x.Send(l[0]); e != api.ErrFull {
			t.Errorf("P22.2: %s sends one too many: %d", x.what, e)
		}
		got := of(x.reads(x.Poll(1)...), dataKind)
		for i, f := range got {
			if f.Count != i || f.Term != l[i] {
				t.Errorf("P22.2: %s sends %v as number %d", x.what, f, i)
			}
		}
		if len(got) != 9 {
			t.Errorf("P22.2: %s sends %v", x.what, got)
		}
	}
	// The same term may be sent twice.
	for _, x := range sides(t, met) {
		h := x.x.Secret()
		x.Send(h)
		x.Send(h)
		if l := of(x.reads(x.Poll(1)...), dataKind); len(l) != 2 || l[1].Count != 1 || l[1].Term != h {
			t.Errorf("P22.2: %s sends %v", x.what, l)
		}
	}
}

// limited is a house whose sides take so many.
func limited(guest, host int) *house {
	w := newHouse()
	w.guest.Data, w.host.Data = guest, host
	return w
}

// many tells how many a side can send.
func many(w *house, x *conn.Conn) int {
	for i := 0; ; i++ {
		if e := x.Send(w.token); e != api.OK {
			if e == api.ErrFull {
				return i
			}
			return -1
		}
	}
}

// A side sends as many as its peer takes; ahead of knowing that a client as many as it takes itself, a server none.
func TestP22_2HowMany(t *testing.T) {
	for _, l := range [][2]int{{0, 0}, {3, 5}, {5, 3}, {0, 4}, {4, 0}} {
		for _, stage := range []int{fresh, shaken, ended, met} {
			w := limited(l[0], l[1])
			c, _ := w.client(t, stage)
			want := l[0]
			if stage >= ended {
				want = l[1]
			}
			if got := many(w, c); got != want {
				t.Errorf("P22.2: of %v a client at the stage %d sends %d", l, stage, got)
			}
			w = limited(l[0], l[1])
			s, _ := w.server(t, stage)
			want = l[0]
			if stage == fresh {
				want = 0
			}
			if got := many(w, s); got != want {
				t.Errorf("P22.2: of %v a server at the stage %d sends %d", l, stage, got)
			}
		}
	}
}

// What a client was given ahead of knowing what its peer takes goes as far as that takes it.
func TestP22_2NoMoreThanThePeerTakes(t *testing.T) {
	for _, takes := range []int{0, 2, 6} {
		w := limited(5, takes)
		c, h := w.client(t, fresh)
		given := sends(t, w, c, 5)
		h.reads(c.Poll(1)...)
		c.Deliver(h.tells(), 1)
		for range 3 {
			l := of(h.reads(c.Poll(1)...), dataKind)
			if len(l) != min(5, takes) {
				t.Errorf("P22.2: of %d a server that takes %d gets %v", len(given), takes, l)
			}
			c.Tick()
		}
		if got := many(w, c); got != max(0, takes-5) {
			t.Errorf("P22.2: then it sends %d", got)
		}
	}
}

// Data go at the level 3 as soon as they may, each once, and again behind a Tick till they are acknowledged.
func TestP22_2DataOfAClient(t *testing.T) {
	w := newHouse()
	c, h := w.client(t, fresh)
	sends(t, w, c, 2)
	if l := of(h.reads(c.Poll(1)...), dataKind); len(l) != 0 {
		t.Errorf("P22.2: without a key: %v", l)
	}
	c.Deliver(h.tells(), 1)
	l := h.reads(c.Poll(1)...)
	if got := of(at(l, api.App), dataKind); len(got) != 2 {
		t.Errorf("P22.2: a client that is done: %v", l)
	}
	sends(t, w, c, 1)
	l = h.reads(c.Poll(1)...)
	if got := of(l, dataKind); len(got) != 1 || got[0].Count != 2 || len(c.Poll(1)) != 0 {
		t.Errorf("P22.2: one more: %v", l)
	}
	last := l[0].number
	c.Deliver(h.sends(api.App, ack(last)), 1)
	c.Tick()
	if got := of(h.reads(c.Poll(1)...), dataKind); len(got) != 2 || got[0].Count != 0 || got[1].Count != 1 {
		t.Errorf("P22.2: behind an ack: %v", got)
	}
}

func TestP22_2DataOfAServer(t *testing.T) {
	w := newHouse()
	s, h := w.server(t, shaken)
	sends(t, w, s, 3)
	s.Tick()
	if l := of(h.reads(s.Poll(1)...), dataKind); len(l) != 0 {
		t.Errorf("P22.2: a server that is not done: %v", l)
	}
	s.Deliver(h.tells(), 1)
	for range 2 {
		if l := of(at(h.reads(s.Poll(1)...), api.App), dataKind); len(l) != 3 {
			t.Errorf("P22.2: a server that is done: %v", l)
		}
		s.Tick()
	}
}

// Early data go once at the level 1; behind that they are due at the level 3, whether they were taken or not.
func TestP22_2EarlyData(t *testing.T) {
	for _, taken := range []bool{true, false} {
		w := withTicket()
		if !taken {
			w.host.Store = nil
		}
		c := w.dials()
		given := sends(t, w, c, 3)
		s := w.accepts()
		for _, b := range c.Poll(1) {
			s.Deliver(b, 1)
		}
		got := s.Recv()
		if taken != (len(got) == 3) || taken && got[2] != (conn.Got{Number: 2, Term: given[2], Early: true}) {
			t.Errorf("P22.2: a server that takes early data %t got %v", taken, got)
		}
		given = append(given, sends(t, w, c, 2)...)
		for _, b := range c.Poll(1) {
			s.Deliver(b, 1)
		}
		got = append(got, s.Recv()...)
		if taken != (len(got) == 5) {
			t.Errorf("P22.2: a server that takes early data %t got %v", taken, got)
		}
		for range 4 {
			carry(c, s)
		}
		got = append(got, s.Recv()...)
		if len(got) != 5 || !c.State().Confirmed || c.Facts().Early != taken {
			t.Fatalf("P22.2: a server that takes early data %t got %v", taken, got)
		}
		for i, x := range got {
			if x != (conn.Got{Number: i, Term: given[i], Early: taken}) {
				t.Errorf("P22.2: a server that takes early data %t got %v as number %d", taken, x, i)
			}
		}
	}
}

// At the level 1 each goes once, whatever ticks, and all of them at the level 3.
func TestP22_2EarlyDataOnce(t *testing.T) {
	w := withTicket()
	c, h := w.dials(), w.byHost(t)
	sends(t, w, c, 2)
	if l := h.reads(c.Poll(1)...); len(of(at(l, api.Early), dataKind)) != 2 || l[0].level != api.Initial {
		t.Errorf("P22.2: %v", l)
	}
	sends(t, w, c, 1)
	for i := range 3 {
		c.Tick()
		l := of(at(h.reads(c.Poll(1)...), api.Early), dataKind)
		if i == 0 && (len(l) != 1 || l[0].Count != 2) || i > 0 && len(l) != 0 {
			t.Errorf("P22.2: behind a Tick: %v", l)
		}
	}
	c.Deliver(h.tells(), 1)
	if l := of(at(h.reads(c.Poll(1)...), api.App), dataKind); len(l) != 3 {
		t.Errorf("P22.2: with the keys of the level 3: %v", l)
	}
	if !c.Facts().Early {
		t.Error("P22.2: early data are not taken")
	}
}

// Each number is taken once, the first time it comes, if it is below the own limit.
func TestP22_2DataThatCome(t *testing.T) {
	for _, x := range sides(t, met) {
		a, b := x.x.Secret(), x.x.Secret()
		if l := x.Recv(); len(l) != 0 {
			t.Errorf("P22.2: %s took %v", x.what, l)
		}
		x.Deliver(x.sends(api.App, datum(4, a), datum(0, b), datum(4, b)), 1)
		x.Deliver(x.sends(api.App, datum(8, a), datum(0, a), datum(1, a)), 1)
		want := []conn.Got{{Number: 4, Term: a}, {Number: 0, Term: b}, {Number: 8, Term: a}, {Number: 1, Term: a}}
		got := x.Recv()
		if !reflect.DeepEqual(got, want) {
			t.Errorf("P22.2: %s took %v, not %v", x.what, got, want)
		}
		clear(got)
		x.Deliver(x.sends(api.App, datum(0, b), datum(1, b), datum(4, b), datum(8, b), datum(2, b)), 1)
		if got := x.Recv(); !reflect.DeepEqual(got, []conn.Got{{Number: 2, Term: b}}) || len(x.Recv()) != 0 {
			t.Errorf("P22.2: %s took %v", x.what, got)
		}
		if s := x.State(); s.Fail != api.OK {
			t.Errorf("P22.2: %v", s)
		}
	}
	for _, number := range []int{9, 10, 1<<62 - 1} {
		for _, x := range sides(t, met) {
			x.Deliver(x.sends(api.App, datum(number, x.x.Secret())), 1)
			if s := x.State(); s.Fail != api.ErrProto || len(x.Recv()) != 0 {
				t.Errorf("P22.2: %s, the number %d: %v", x.what, number, s)
			}
		}
		w := withTicket()
		s, h := w.server(t, shaken)
		s.Deliver(h.sends(api.Early, datum(number, w.token)), 1)
		if x := s.State(); x.Fail != api.ErrProto || len(s.Recv()) != 0 {
			t.Errorf("P22.2: early, the number %d: %v", number, x)
		}
	}
}

// The own limit counts for what comes, the peer's for what goes.
func TestP22_2WhoseLimit(t *testing.T) {
	w := limited(2, 7)
	c, h := w.client(t, met)
	c.Deliver(h.sends(api.App, datum(1, w.token)), 1)
	if len(c.Recv()) != 1 {
		t.Error("P22.2: the last one below the limit")
	}
	c.Deliver(h.sends(api.App, datum(2, w.token)), 1)
	if c.State().Fail != api.ErrProto {
		t.Error("P22.2: the first one beyond the limit")
	}
	w = limited(2, 7)
	s, g := w.server(t, met)
	s.Deliver(g.sends(api.App, datum(6, w.token)), 1)
	if len(s.Recv()) != 1 {
		t.Error("P22.2: the last one below the limit")
	}
	s.Deliver(g.sends(api.App, datum(7, w.token)), 1)
	if s.State().Fail != api.ErrProto {
		t.Error("P22.2: the first one beyond the limit")
	}
}

// The same number early and late is one.
func TestP22_2EarlyAndLateIsOne(t *testing.T) {
	w := withTicket()
	s, h := w.server(t, shaken)
	a, b := w.x.Secret(), w.x.Secret()
	s.Deliver(h.sends(api.Early, datum(1, a)), 1)
	s.Deliver(h.tells(), 1)
	s.Deliver(h.sends(api.App, datum(1, b), datum(0, b), frame.Frame{Kind: ping}), 1)
	want := []conn.Got{{Number: 1, Term: a, Early: true}, {Number: 0, Term: b}}
	if got := s.Recv(); !reflect.DeepEqual(got, want) {
		t.Errorf("P22.2: %v, not %v", got, want)
	}
}
