package world_test

import (
	"math"
	"reflect"
	"slices"
	"testing"

	"shibboleth/api"
	"shibboleth/frame"
	"shibboleth/header"
	"shibboleth/hello"
	"shibboleth/params"
	"shibboleth/world"
)

func TestP24_1New(t *testing.T) {
	w := world.New()
	if w.Table() == nil || w.Table().Size() != 0 || w.Servers() != 0 || len(w.Clients()) != 0 || w.Datagrams() != 0 || w.Now() != 0 {
		t.Errorf("P24.1: a new world has %d terms, %d servers, %v, %d datagrams, the time %d", w.Table().Size(), w.Servers(), w.Clients(), w.Datagrams(), w.Now())
	}
	if c, is := w.Config(1); is || !reflect.DeepEqual(c, zeroConfig) || len(w.Peers(1)) != 0 || len(w.Letter(1)) != 0 || w.Can(1) {
		t.Error("P24.1: a new world has something")
	}
	if world.New().Table() == w.Table() {
		t.Error("P24.1: two worlds have one table")
	}
}

// A server has its secrets in their order, and he knows its public term.
func TestP24_1Serve(t *testing.T) {
	w := world.New()
	do(w, serve, 21, 1, 2, 3, 4)
	do(w, serve, 3, 0, 5, 6, 7)
	var secrets []api.Term
	for s := 1; s <= 2; s++ {
		c, is := w.Config(s)
		if !is {
			t.Fatalf("P24.1: there is no server %d", s)
		}
		if want := []string{"s1", "s2"}[s-1]; c.Server.Name != want || c.Server.Idle != 1 || c.Server.Data != 1000 {
			t.Errorf("P24.1: the server %d is %q, with the idle time %d and the limit %d", s, c.Server.Name, c.Server.Idle, c.Server.Data)
		}
		if life := []int{4, 7}[s-1]; c.Server.Life != life || c.Life != life || c.Shown != (s == 1) {
			t.Errorf("P24.1: the server %d: %v", s, c)
		}
		if want := [][]int{{1, 2}, {3}}[s-1]; !slices.Equal(c.Server.Versions, want) {
			t.Errorf("P24.1: the server %d has the versions %v", s, c.Server.Versions)
		}
		secrets = append(secrets, c.Server.Secret, c.Server.Key, c.Key)
		if public := w.Table().Make(publicKind, []api.Term{c.Server.Secret}); !w.Can(public) {
			t.Errorf("P24.1: he does not know the public term of the server %d", s)
		}
	}
	if !slices.IsSorted(secrets) || len(slices.Compact(slices.Clone(secrets))) != 6 || w.Servers() != 2 {
		t.Errorf("P24.1: the secrets %v of %d servers", secrets, w.Servers())
	}
	for _, h := range secrets {
		if n, _ := w.Table().Look(h); n.Kind != secretKind || w.Can(h) {
			t.Errorf("P24.1: %d is %v; he can make it: %t", h, n, w.Can(h))
		}
	}
}

// The store has the window and the room that were told.
func TestP24_1Stores(t *testing.T) {
	w := world.New()
	do(w, serve, 1, 0, 5, 2)
	c, _ := w.Config(1)
	again, _ := w.Config(1)
	s := c.Server.Store
	if s != again.Server.Store {
		t.Error("P24.1: a server has two stores")
	}
	if e := s.Try(1, 10, 15); e != api.OK {
		t.Errorf("P24.1: within the window: %d", e)
	}
	if e := s.Try(2, 9, 15); e != api.ErrOld {
		t.Errorf("P24.1: behind the window: %d", e)
	}
	if a, b := s.Try(2, 15, 15), s.Try(3, 15, 15); a != api.OK || b != api.ErrFull {
		t.Errorf("P24.1: the room of 2: %d, %d", a, b)
	}
}

// A list of a number: its figures, from the last one on, each once, without 0.
func TestP24_1Lists(t *testing.T) {
	for list, want := range map[int][]int{
		1: {1}, 21: {1, 2}, 12: {2, 1}, 1020: {2, 1}, 1221: {1, 2}, 100: {1}, 999: {9},
		9876543210: {1, 2, 3, 4, 5, 6, 7, 8, 9}, 123456789: {9, 8, 7, 6, 5, 4, 3, 2, 1},
		math.MaxInt: {7, 8, 5, 4, 6, 3, 2, 9},
	} {
		w := world.New()
		do(w, serve, list, 0, 1, 1, 1)
		if c, _ := w.Config(1); !slices.Equal(c.Server.Versions, want) {
			t.Errorf("P24.1: the list %d: a server has %v", list, c.Server.Versions)
		}
		do(w, dial, 1, list)
		if l := w.Clients(); len(l) != 1 || !slices.Equal(l[0].Offers, want) {
			t.Errorf("P24.1: the list %d: clients %v", list, l)
		}
	}
}

// B is odd, or it is not; below 0, too.
func TestP24_1Shown(t *testing.T) {
	for b, want := range map[int]bool{0: false, 1: true, 2: false, 3: true, 9: true, -1: true, -2: false, math.MaxInt: true, math.MinInt: false} {
		w := world.New()
		do(w, serve, 1, b, 1, 1, 1)
		if c, is := w.Config(1); !is || c.Shown != want {
			t.Errorf("P24.1: B %d: %t, %t", b, is, c.Shown)
		}
		was := w.Datagrams()
		do(w, dial, 1, 1)
		rounds(w, 1)
		do(w, poll)
		if got := len(w.Peers(1)) == 0; got != want || w.Datagrams() < was+2 {
			t.Errorf("P24.1: B %d: %d sides", b, len(w.Peers(1)))
		}
	}
}

// A server that may not be is none, and nothing comes of it.
func TestP24_1ServeRefused(t *testing.T) {
	w := world.New()
	for _, l := range [][]int{{0, 0, 1, 1, 1}, {-21, 0, 1, 1, 1}, {math.MinInt}, {1, 0, 1, 1, -1}, {1, 1, 1, 1, 1 << 62}, {1, 1, 1, 1, math.MaxInt}} {
		do(w, serve, l...)
		if w.Servers() != 0 || w.Table().Size() != 0 {
			t.Errorf("P24.1: serve %v: %d servers, %d terms", l, w.Servers(), w.Table().Size())
		}
	}
	for _, l := range [][]int{{1, 0, -1, -1, 0}, {1, 0, math.MinInt, math.MinInt, 0}, {1, 0, math.MaxInt, math.MaxInt, 1<<62 - 1}} {
		was := w.Servers()
		do(w, serve, l...)
		if w.Servers() != was+1 {
			t.Errorf("P24.1: serve %v: %d servers", l, w.Servers())
		}
	}
}

func TestP24_1EightServers(t *testing.T) {
	w := world.New()
	for range 8 {
		do(w, serve, 1)
	}
	size := w.Table().Size()
	do(w, serve, 1)
	if _, is := w.Config(9); is || w.Servers() != 8 || w.Table().Size() != size {
		t.Errorf("P24.1: %d servers, %d terms more", w.Servers(), w.Table().Size()-size)
	}
	if c, is := w.Config(8); !is || c.Server.Name != "s8" {
		t.Errorf("P24.1: the last one is %q", c.Server.Name)
	}
}

// A client has names of its own, and says who it is.
func TestP24_1Dial(t *testing.T) {
	w := served(123)
	do(w, serve, 4, 0, 1, 1, 1)
	do(w, dial, 1, 21)
	do(w, dial, 2, 4)
	for n := 1; n <= 2; n++ {
		c := guest(w, n)
		s := c.Talk.State()
		if c.Server != n || c.Ticket != 0 || len(c.Sent) != 0 || len(c.Got) != 0 || !s.Client || !slices.Equal(s.Own, name('c', n)) {
			t.Errorf("P24.1: the client %d: %v, %v", n, c, s)
		}
	}
	do(w, poll)
	for n := 1; n <= 2; n++ {
		h := first(t, w.Letter(n))
		if h.Kind != api.Initial || h.Version != []int{1, 4}[n-1] || !slices.Equal(h.To, name('g', n)) || !slices.Equal(h.From, name('c', n)) {
			t.Errorf("P24.1: the client %d begins with %v", n, h)
		}
	}
	rounds(w, 6)
	for n := 1; n <= 2; n++ {
		f := guest(w, n).Talk.Facts()
		p, _ := params.Read(f.Mine)
		c, _ := w.Config(n)
		if !f.Done || f.Peer != c.Server.Name || p.Idle != 1 || p.Data != 1000 || !slices.Equal(p.Versions, guest(w, n).Offers) {
			t.Errorf("P24.1: the client %d: %v, params %v", n, f, p)
		}
	}
}

// It begins with the C-th version that it offers, counted round.
func TestP24_1Begins(t *testing.T) {
	for c, want := range map[int]int{0: 3, 1: 2, 2: 1, 3: 3, 4: 2, 302: 1, -1: 1, -2: 2, -3: 3, math.MaxInt: 2, math.MinInt: 2} {
		w := served(1)
		do(w, dial, 1, 123, c)
		if l := w.Clients(); len(l) != 1 || l[0].Talk.State().Version != want || !slices.Equal(l[0].Offers, []int{3, 2, 1}) {
			t.Errorf("P24.1: C %d: %v", c, l)
		}
	}
}

func TestP24_1DialRefused(t *testing.T) {
	w := served(1)
	size := w.Table().Size()
	for _, l := range [][]int{{0, 1}, {2, 1}, {-1, 1}, {math.MinInt, 1}, {math.MaxInt, 1}, {1, 0}, {1, -12}, {1, 0, 5}} {
		do(w, dial, l...)
		if len(w.Clients()) != 0 || w.Table().Size() != size {
			t.Errorf("P24.1: dial %v: clients %v", l, w.Clients())
		}
	}
}

func TestP24_1SixtyFourClients(t *testing.T) {
	w := served(1)
	for range 64 {
		do(w, dial, 1, 1)
	}
	size := w.Table().Size()
	do(w, dial, 1, 1)
	if len(w.Clients()) != 64 || w.Table().Size() != size {
		t.Errorf("P24.1: %d clients, %d terms more", len(w.Clients()), w.Table().Size()-size)
	}
	do(w, poll)
	if h := first(t, w.Letter(64)); w.Datagrams() != 64 || !slices.Equal(h.From, name('c', 64)) {
		t.Errorf("P24.1: %d datagrams, the last one from %x", w.Datagrams(), h.From)
	}
}

// A client comes with the last ticket that another one got from that server; of what is not there nothing comes.
func TestP24_1Tickets(t *testing.T) {
	w := talking(t, 1)
	do(w, serve, 1, 0, 100, 100, 100)
	do(w, dial, 2, 1)       // 2: of another server
	do(w, dial, 1, 1, 0, 2) // 3
	if a, b := guest(w, 3), guest(w, 2); a.Ticket != 0 || len(b.Talk.State().Passes) != 0 {
		t.Errorf("P24.1: a ticket that is not there yet: %v", a)
	}
	do(w, dial, 1, 1, 0, 3) // 4: from that server, but it has none yet
	if c := guest(w, 4); c.Ticket != 0 {
		t.Errorf("P24.1: a ticket that is not there yet: %v", c)
	}
	rounds(w, 6)
	for _, x := range []struct{ server, of, want int }{{1, 1, 1}, {1, 2, 0}, {1, 3, 3}, {1, 99, 0}, {1, -1, 0}, {2, 1, 0}, {2, 2, 2}, {1, 0, 0}, {1, 5, 5}, {1, 1, 1}} {
		do(w, dial, x.server, 1, 0, x.of)
		l := w.Clients()
		if c := l[len(l)-1]; c.Ticket != x.want || c.Server != x.server {
			t.Errorf("P24.1: a client of %d with the ticket of %d: %v", x.server, x.of, c)
		}
		rounds(w, 6)
		c := guest(w, len(l))
		f := c.Talk.Facts()
		var want api.Term
		if x.want != 0 {
			want = guest(w, x.want).Talk.State().Passes[0].Ticket
		}
		if !f.Done || f.Ticket != want {
			t.Errorf("P24.1: a client of %d with the ticket of %d: it is done: %t, its ticket is %d, not %d", x.server, x.of, f.Done, f.Ticket, want)
		}
	}
}

// Early data come, if E is odd, and the ticket is of the version with which the client begins.
func TestP24_1Early(t *testing.T) {
	for _, x := range []struct {
		offers, at, of, e int
		want              bool
	}{
		{1, 0, 1, 1, true}, {1, 0, 1, 3, true}, {1, 0, 1, -1, true}, {1, 0, 1, 0, false}, {1, 0, 1, 2, false},
		{1, 0, 0, 1, false}, {1, 0, 9, 1, false}, {21, 0, 1, 1, true}, {21, 1, 1, 1, false}, {12, 1, 1, 1, true},
	} {
		w := talking(t, 1)
		do(w, dial, 1, x.offers, x.at, x.of, x.e)
		h := do(w, send, 2)
		was := w.Datagrams()
		do(w, poll)
		l := kindsOf(w.Letter(was + 1))
		if got := slices.Contains(l, api.Early); got != x.want || len(l) == 0 {
			t.Errorf("P24.1: %v: packets of the kinds %v", x, l)
		}
		do(w, come, was+1)
		rounds(w, 6)
		f := guest(w, 2).Talk.Facts()
		p := w.Peers(1)
		got := p[len(p)-1].Got
		if !f.Done || f.Early != x.want || len(got) != 1 || got[0].Term != h || got[0].Early != x.want {
			t.Errorf("P24.1: %v: early %t, taken %v", x, f.Early, got)
		}
	}
}

// Where a client got two tickets, it is the last one that another client has.
func TestP24_1TheLastTicket(t *testing.T) {
	w := talking(t, 1)
	do(w, leak, 1, ofTraffic) // a server tells one alone: the second one is by hand
	f := guest(w, 1).Talk.Facts()
	old := guest(w, 1).Talk.State().Passes[0]
	pass := do(w, makes, secretKind)
	at := len(hello.Write(hello.Msg{Kind: ticketKind, Ticket: old.Ticket, Life: old.Life}))
	b := hello.Write(hello.Msg{Kind: ticketKind, Ticket: pass, Life: 7})
	toClient(w, 1, sealed(w, under(w, api.App, f.Server), header.Header{Kind: api.App, To: name('c', 1)}, 40, frame.Frame{Kind: crypto, At: at, Data: b}))
	if l := guest(w, 1).Talk.State().Passes; len(l) != 2 || l[1].Ticket != pass {
		t.Fatalf("P22.2: the tickets %v", l)
	}
	do(w, dial, 1, 1, 0, 1)
	do(w, poll)
	said := frames(w, carried(w.Letter(w.Datagrams()))[0])
	m, e := hello.Read(said[0].Data)
	if e != api.OK || m.Ticket != pass || guest(w, 2).Ticket != 1 {
		t.Errorf("P24.1: the ticket of its hello is %d, not %d", m.Ticket, pass)
	}
}
