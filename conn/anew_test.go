package conn_test

import (
	"bytes"
	"fmt"
	"slices"
	"testing"

	"shibboleth/api"
	"shibboleth/conn"
	"shibboleth/frame"
	"shibboleth/hello"
	"shibboleth/ideal"
	"shibboleth/params"
	"shibboleth/special"
	"shibboleth/strike"
)

// retry is a Retry that is right for a house's client.
func (w *house) retry() special.Retry {
	r := special.Retry{Version: w.version, To: w.own, From: w.retried, Token: w.token}
	r.Tag = special.Tag(w.x, w.goal, r)
	return r
}

// list is a list of versions that is right for a house's client.
func (w *house) list(versions ...int) []byte {
	return special.WriteList(special.List{To: w.own, From: w.goal, Versions: versions})
}

// retries takes a Retry, and tells by hand the server that the client means by then.
func (w *house) retries(t *testing.T, c *conn.Conn) *hand {
	t.Helper()
	c.Deliver(special.WriteRetry(w.retry()), 1)
	w.again = true
	return w.byHost(t)
}

// said is the client's hello of a datagram, and its params.
func said(t *testing.T, l []packet) (hello.Msg, params.Params) {
	t.Helper()
	pieces := of(at(l, api.Initial), crypto)
	if len(pieces) != 1 || pieces[0].At != 0 {
		t.Fatalf("P22.2: the pieces %v", pieces)
	}
	m, _ := hello.Read(pieces[0].Data)
	p, e := params.Read(m.Params)
	if m.Kind != clientSaid || e != api.OK {
		t.Fatalf("P22.2: the message %v", m)
	}
	return m, p
}

func TestP22_2Retry(t *testing.T) {
	for _, name := range []string{"rrrrrrrr", "", "r", "twenty bytes of name"} {
		w := newHouse()
		w.retried = []byte(name)
		c := w.dials()
		old := c.Poll(1)
		before, _ := said(t, w.byHost(t).reads(old...))
		h := w.retries(t, c)
		l := c.Poll(1)
		if len(l) != 1 || len(l[0]) < 1000 {
			t.Fatalf("P22.2: behind a Retry: %d datagrams", len(l))
		}
		got := h.reads(l...)
		x := got[0].header
		if len(got) != 1 || string(x.To) != name || !bytes.Equal(x.Token, ideal.Number(w.token)) || !bytes.Equal(x.From, w.own) || x.Version != 1 {
			t.Errorf("P22.2: behind a Retry of %q: %v", name, got)
		}
		m, p := said(t, got)
		if m.Random == before.Random || m.Share == before.Share || p.Chosen != 1 || p.HasGoal || p.HasRetry {
			t.Errorf("P22.2: it does not begin anew: %v, %v", m, p)
		}
		c.Deliver(h.tells(), 1)
		h.reads(c.Poll(1)...)
		if s := c.State(); !s.Done || !h.facts().Done || s.Fail != api.OK || s.Out < len(old[0])+len(l[0]) {
			t.Errorf("P22.2: behind a Retry of %q: %v", name, s)
		}
	}
}

// The token stands in each packet of the level 0, and in no other one.
func TestP22_2TokenOfARetry(t *testing.T) {
	w := newHouse()
	c := w.dials()
	c.Poll(1)
	h := w.retries(t, c)
	c.Deliver(h.sends(api.Initial, frame.Frame{Kind: ping}), 1)
	for range 2 {
		for _, p := range h.reads(c.Poll(1)...) {
			if !bytes.Equal(p.header.Token, ideal.Number(w.token)) || p.level != api.Initial {
				t.Errorf("P22.2: behind a Retry: %v", p.header)
			}
		}
		c.Tick()
	}
	c.Deliver(h.tells(), 1)
	for _, p := range h.reads(c.Poll(1)...) {
		if is := len(p.header.Token) > 0; is != (p.level == api.Initial) {
			t.Errorf("P22.2: behind a Retry: %v", p.header)
		}
	}
}

func TestP22_2RetriesThatArePassedOver(t *testing.T) {
	all := []struct {
		what string
		put  func(t *testing.T, w *house, c *conn.Conn, r *special.Retry)
	}{
		{"another name", func(t *testing.T, w *house, c *conn.Conn, r *special.Retry) {
			r.To = []byte("dddddddd")
			r.Tag = special.Tag(w.x, w.goal, *r)
		}},
		{"another goal", func(t *testing.T, w *house, c *conn.Conn, r *special.Retry) { r.Tag = special.Tag(w.x, w.own, *r) }},
		{"another version", func(t *testing.T, w *house, c *conn.Conn, r *special.Retry) {
			r.Version = 2
			r.Tag = special.Tag(w.x, w.goal, *r)
		}},
		{"another one's tag", func(t *testing.T, w *house, c *conn.Conn, r *special.Retry) { r.From = []byte("others'") }},
		{"another token", func(t *testing.T, w *house, c *conn.Conn, r *special.Retry) { r.Token = w.host.Key }},
		{"no tag", func(t *testing.T, w *house, c *conn.Conn, r *special.Retry) { r.Tag = w.token }},
		{"behind a Retry", func(t *testing.T, w *house, c *conn.Conn, r *special.Retry) {
			c.Deliver(special.WriteRetry(*r), 1)
			c.Poll(1)
			r.From = []byte("second..")
			r.Tag = special.Tag(w.x, w.goal, *r)
		}},
		{"the same once more", func(t *testing.T, w *house, c *conn.Conn, r *special.Retry) {
			c.Deliver(special.WriteRetry(*r), 1)
			c.Poll(1)
		}},
		{"of the Retry's name", func(t *testing.T, w *house, c *conn.Conn, r *special.Retry) {
			c.Deliver(special.WriteRetry(*r), 1)
			c.Poll(1)
			r.Tag = special.Tag(w.x, w.retried, *r)
		}},
		{"behind a packet", func(t *testing.T, w *house, c *conn.Conn, r *special.Retry) {
			h := w.byHost(t)
			c.Deliver(h.sends(api.Initial, frame.Frame{Kind: padding, Count: 1}), 1)
		}},
		{"closed", func(t *testing.T, w *house, c *conn.Conn, r *special.Retry) {
			c.Close(1)
			c.Poll(1)
		}},
		{"failed", func(t *testing.T, w *house, c *conn.Conn, r *special.Retry) {
			c.Deliver(w.list(5), 1)
			c.Poll(1)
		}},
	}
	for _, one := range all {
		w := newHouse()
		c := w.dials()
		c.Poll(1)
		r := w.retry()
		one.put(t, w, c, &r)
		before := c.State()
		c.Deliver(special.WriteRetry(r), 1)
		if l := c.Poll(1); len(l) != 0 {
			t.Errorf("P22.2: a Retry, %s: %d datagrams", one.what, len(l))
		}
		before.In += len(special.WriteRetry(r))
		if s := c.State(); fmt.Sprint(s) != fmt.Sprint(before) {
			t.Errorf("P22.2: a Retry, %s: %v, not %v", one.what, s, before)
		}
	}
}

func TestP22_2List(t *testing.T) {
	all := []struct{ offers, told []int }{
		{[]int{1, 2}, []int{2}}, {[]int{1, 3, 2}, []int{2, 3}}, {[]int{2, 1}, []int{7, 2, 2}}, {[]int{3, 1, 2}, []int{2, 3, 4}},
	}
	for _, one := range all {
		w := newHouse()
		w.guest.Versions = one.offers
		c := w.dials()
		before, _ := said(t, w.byHost(t).reads(c.Poll(1)...))
		c.Deliver(w.list(one.told...), 1)
		for _, v := range one.offers {
			if v != w.version && slices.Contains(one.told, v) {
				w.version = v
				break
			}
		}
		w.host.Versions = one.told[:1]
		if w.version != one.told[0] {
			w.host.Versions = []int{w.version}
		}
		h := w.byHost(t)
		l := c.Poll(1)
		if len(l) != 1 || len(l[0]) < 1000 {
			t.Fatalf("P22.2: behind a list of %v: %d datagrams", one.told, len(l))
		}
		got := h.reads(l...)
		x := got[0].header
		if x.Version != w.version || !bytes.Equal(x.To, w.goal) || len(x.Token) != 0 || c.State().Version != w.version {
			t.Errorf("P22.2: behind a list of %v: %v", one.told, x)
		}
		m, p := said(t, got)
		if m.Random == before.Random || m.Share == before.Share || p.Chosen != w.version || !slices.Equal(p.Versions, one.offers) {
			t.Errorf("P22.2: behind a list of %v: %v, %v", one.told, m, p)
		}
		c.Deliver(h.tells(), 1)
		h.reads(c.Poll(1)...)
		if s := c.State(); !s.Done || !h.facts().Done || c.Facts().Version != w.version {
			t.Errorf("P22.2: behind a list of %v: %v", one.told, s)
		}
	}
}

// What is of the version that was, is of none any more.
func TestP22_2TheOldVersionBehindAList(t *testing.T) {
	w := newHouse()
	c := w.dials()
	old := w.byHost(t)
	c.Poll(1)
	c.Deliver(w.list(2), 1)
	c.Poll(1)
	if answers(c, old.sends(api.Initial, frame.Frame{Kind: ping})) {
		t.Error("P22.2: behind a list a packet of the old version is taken")
	}
	r := w.retry()
	if answers(c, special.WriteRetry(r)) {
		t.Error("P22.2: behind a list a Retry of the old version is taken")
	}
	w.version = 2
	r = w.retry()
	if !answers(c, special.WriteRetry(r)) {
		t.Error("P22.2: behind a list a Retry is passed over")
	}
	w.again = true
	h := w.byHost(t)
	c.Tick()
	if l := h.reads(c.Poll(1)...); l[0].header.Version != 2 || string(l[0].header.To) != "rrrrrrrr" {
		t.Errorf("P22.2: behind a list and a Retry: %v", l)
	}
}

func TestP22_2ListsThatArePassedOver(t *testing.T) {
	to := func(to, from string, versions ...int) func(t *testing.T, w *house, c *conn.Conn) []byte {
		return func(t *testing.T, w *house, c *conn.Conn) []byte {
			return special.WriteList(special.List{To: []byte(to), From: []byte(from), Versions: versions})
		}
	}
	all := []struct {
		what string
		make func(t *testing.T, w *house, c *conn.Conn) []byte
	}{
		{"another name", to("dddddddd", goalName, 2)},
		{"another goal", to(guestName, "hhhhhhhh", 2)},
		{"none offered, from another goal", to(guestName, "hhhhhhhh", 7)},
		{"its own version", to(guestName, goalName, 2, 1)},
		{"its own version alone", to(guestName, goalName, 1)},
		{"behind a list", func(t *testing.T, w *house, c *conn.Conn) []byte {
			c.Deliver(w.list(2), 1)
			c.Poll(1)
			return w.list(3)
		}},
		{"behind a list, none offered", func(t *testing.T, w *house, c *conn.Conn) []byte {
			c.Deliver(w.list(2), 1)
			c.Poll(1)
			return w.list(9)
		}},
		{"behind a Retry", func(t *testing.T, w *house, c *conn.Conn) []byte {
			w.retries(t, c)
			c.Poll(1)
			return w.list(2)
		}},
		{"behind a Retry, from its name", func(t *testing.T, w *house, c *conn.Conn) []byte {
			w.retries(t, c)
			c.Poll(1)
			return to(guestName, "rrrrrrrr", 2)(t, w, c)
		}},
		{"behind a packet", func(t *testing.T, w *house, c *conn.Conn) []byte {
			c.Deliver(w.byHost(t).sends(api.Initial, frame.Frame{Kind: padding, Count: 1}), 1)
			return w.list(2)
		}},
		{"closed", func(t *testing.T, w *house, c *conn.Conn) []byte {
			c.Close(1)
			c.Poll(1)
			return w.list(9)
		}},
	}
	for _, one := range all {
		w := newHouse()
		w.guest.Versions = []int{1, 2, 3}
		c := w.dials()
		c.Poll(1)
		b := one.make(t, w, c)
		before := c.State()
		if answers(c, b) {
			t.Errorf("P22.2: a list, %s: it says more", one.what)
		}
		before.In += len(b)
		if s := c.State(); fmt.Sprint(s) != fmt.Sprint(before) {
			t.Errorf("P22.2: a list, %s: %v, not %v", one.what, s, before)
		}
	}
	// One that is passed over is none: the next one counts.
	w := newHouse()
	c := w.dials()
	c.Poll(1)
	c.Deliver(w.list(1, 2), 1)
	if !answers(c, w.list(2)) {
		t.Error("P22.2: a list behind one that is passed over")
	}
}

// A list of nothing that is offered ends the talk.
func TestP22_2AListWithoutAVersion(t *testing.T) {
	for _, told := range [][]int{{3}, {9, 4, 1 << 31}} {
		w := newHouse()
		c, h := w.dials(), w.byHost(t)
		h.reads(c.Poll(1)...)
		c.Deliver(w.list(told...), 1)
		if s := c.State(); s.Fail != api.ErrVersion || s.Closed || s.Version != 1 {
			t.Errorf("P22.2: behind a list of %v: %v", told, s)
		}
		l := c.Poll(1)
		got := h.reads(l...)
		if len(l) != 1 || len(l[0]) < 1000 || len(of(got, closeKind)) != 1 || of(got, closeKind)[0].Count != int(api.ErrVersion) {
			t.Errorf("P22.2: behind a list of %v: %v", told, got)
		}
	}
}

// A Retry or a list that comes with something else, or to a server, has no form.
func TestP22_2SpecialOnesElsewhere(t *testing.T) {
	w := newHouse()
	c := w.dials()
	c.Poll(1)
	other := newHouse()
	stray := other.byHost(t)
	stray.version = 3
	for _, b := range [][]byte{special.WriteRetry(w.retry()), w.list(2)} {
		if answers(c, append(b, 0)) || answers(c, b[:len(b)-1]) || answers(c, append(stray.sends(api.Initial, frame.Frame{Kind: ping}), b...)) {
			t.Errorf("P22.2: %x", b)
		}
	}
	v := newHouse()
	s, _ := v.server(t, fresh)
	v.own, v.name = v.name, v.own
	if answers(s, special.WriteRetry(v.retry())) || answers(s, v.list(2)) || answers(s, v.list(9)) || s.State().Fail != api.OK {
		t.Error("P22.2: a server takes a Retry, or a list")
	}
}

// Data that were sent early go once more behind a Retry, and behind a list at the level 3 alone.
func TestP22_2DataOfWhoBeginsAnew(t *testing.T) {
	w := withTicket()
	a, b := w.x.Secret(), w.x.Secret()
	c := w.dials()
	c.Send(a)
	c.Send(b)
	h := w.byHost(t)
	if l := h.reads(c.Poll(1)...); len(of(at(l, api.Early), dataKind)) != 2 {
		t.Errorf("P22.2: early data: %v", l)
	}
	w.host.Store = strike.New(50, 50)
	h = w.retries(t, c)
	l := h.reads(c.Poll(1)...)
	if got := of(at(l, api.Early), dataKind); len(got) != 2 || got[0].Term != a || got[1].Count != 1 || got[1].Term != b {
		t.Errorf("P22.2: behind a Retry: %v", got)
	}
	if m, _ := said(t, at(l, api.Initial)); !m.Flag || m.Ticket != w.guest.Ticket {
		t.Errorf("P22.2: behind a Retry: %v", m)
	}

	w = withTicket()
	c = w.dials()
	c.Send(a)
	c.Poll(1)
	c.Deliver(w.list(2), 1)
	w.version, w.host.Versions = 2, []int{2}
	h = w.byHost(t)
	l = h.reads(c.Poll(1)...)
	if m, _ := said(t, l); m.Flag || m.Ticket != w.guest.Ticket || len(at(l, api.Early)) != 0 {
		t.Errorf("P22.2: behind a list: %v", l)
	}
	c.Send(b)
	if len(c.Poll(1)) != 0 {
		t.Error("P22.2: behind a list data go early")
	}
	c.Deliver(h.tells(), 1)
	l = h.reads(c.Poll(1)...)
	if got := of(at(l, api.App), dataKind); len(got) != 2 || got[0].Term != a || got[1].Term != b {
		t.Errorf("P22.2: behind a list: %v", got)
	}
}
