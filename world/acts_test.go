package world_test

import (
	"math"
	"slices"
	"testing"

	"shibboleth/api"
	"shibboleth/header"
	"shibboleth/listen"
	"shibboleth/world"
)

var zeroConfig listen.Config

// kindsOf tells the kinds of a datagram's packets.
func kindsOf(b []byte) []int {
	var l []int
	packets, _ := header.Split(b)
	for _, p := range packets {
		l = append(l, p.Header.Kind)
	}
	return l
}

// The document's example: all comes, without a tick.
func TestP24_1AClientIsDone(t *testing.T) {
	w := served(1)
	do(w, dial, 1, 1)
	for range 3 {
		was := w.Datagrams()
		do(w, poll)
		for n := was + 1; n <= w.Datagrams(); n++ {
			do(w, come, n)
		}
	}
	if !guest(w, 1).Talk.Facts().Done {
		t.Errorf("P24.1: the client is not done: %v", guest(w, 1).Talk.State())
	}
}

// A new secret is told, and is sent: clients' and servers', in order.
func TestP24_1SendAndReply(t *testing.T) {
	w := talking(t, 2)
	var all [4][]api.Term // of each client, and of each side
	for i := range 3 {
		for n := 1; n <= 2; n++ {
			size := w.Table().Size()
			h, g := do(w, send, n), do(w, reply, 1, n)
			if x, _ := w.Table().Look(h); x.Kind != secretKind || int(h) <= size || g <= h {
				t.Errorf("P24.1: %d behind %d terms, %d", h, size, g)
			}
			if x, _ := w.Table().Look(g); x.Kind != secretKind {
				t.Errorf("P24.1: %d is %v", g, x)
			}
			all[n-1], all[n+1] = append(all[n-1], h), append(all[n+1], g)
		}
		if i < 2 {
			rounds(w, 1)
		}
	}
	for n := 1; n <= 2; n++ {
		c, p := guest(w, n), side(w, n)
		if !slices.Equal(c.Sent, all[n-1]) || !slices.Equal(p.Sent, all[n+1]) || len(c.Got) != 2 || len(p.Got) != 2 {
			t.Errorf("P24.1: %v, %v", c, p)
		}
	}
	rounds(w, 2)
	for n := 1; n <= 2; n++ {
		c, p := guest(w, n), side(w, n)
		for i := range 3 {
			if c.Got[i].Number != i || c.Got[i].Term != all[n+1][i] || p.Got[i].Number != i || p.Got[i].Term != all[n-1][i] {
				t.Errorf("P24.1: %d: %v, %v", i, c.Got, p.Got)
			}
		}
		if len(c.Got) != 3 || len(p.Got) != 3 || len(c.Talk.Recv()) != 0 {
			t.Errorf("P24.1: %v, %v", c, p)
		}
		for _, h := range all[n-1] {
			if w.Can(h) {
				t.Errorf("P2: he can make %d", h)
			}
		}
	}
}

// Nothing is told of what can't be sent, and it is not among what was sent.
func TestP24_1NotSent(t *testing.T) {
	w := talking(t, 2)
	size := w.Table().Size()
	for _, l := range [][]int{{send, 0}, {send, 3}, {send, -1}, {send, math.MinInt}, {send, math.MaxInt}, {reply, 0, 1}, {reply, 2, 1}, {reply, 1, 0}, {reply, 1, 3}, {reply, 1, -1}, {reply, math.MaxInt, math.MinInt}} {
		if h := do(w, l[0], l[1:]...); h != 0 || w.Table().Size() != size {
			t.Errorf("P24.1: %v: %d", l, h)
		}
	}
	do(w, end, 1, 5)
	do(w, end, 1, 5, 2)
	if a, b := do(w, send, 1), do(w, reply, 1, 2); a != 0 || b != 0 || len(guest(w, 1).Sent) != 0 || len(side(w, 2).Sent) != 0 {
		t.Errorf("P24.1: sides that are closed send %d, %d", a, b)
	}
	if a, b := do(w, send, 2), do(w, reply, 1, 1); a == 0 || b == 0 {
		t.Errorf("P24.1: sides that are not closed send %d, %d", a, b)
	}
}

func TestP24_1AThousandData(t *testing.T) {
	w := talking(t, 1)
	for i := range 1000 {
		if do(w, send, 1) == 0 || do(w, reply, 1, 1) == 0 {
			t.Fatalf("P24.1: the data %d are refused", i)
		}
	}
	if a, b := do(w, send, 1), do(w, reply, 1, 1); a != 0 || b != 0 || len(guest(w, 1).Sent) != 1000 || len(side(w, 1).Sent) != 1000 {
		t.Errorf("P24.1: the data 1001: %d, %d", a, b)
	}
	rounds(w, 2)
	if len(guest(w, 1).Got) != 1000 || len(side(w, 1).Got) != 1000 {
		t.Errorf("P24.1: taken: %d, %d", len(guest(w, 1).Got), len(side(w, 1).Got))
	}
}

// Clients' datagrams are the first ones, then servers'.
func TestP24_1Poll(t *testing.T) {
	w := served(1)
	do(w, serve, 1, 1, 9, 9, 9)
	do(w, dial, 2, 1)
	do(w, dial, 1, 1)
	do(w, poll)
	do(w, poll)
	if w.Datagrams() != 2 {
		t.Fatalf("P24.1: %d datagrams", w.Datagrams())
	}
	do(w, come, 1)
	do(w, come, 2)
	do(w, tick)
	if w.Datagrams() != 2 {
		t.Errorf("P24.1: %d datagrams without a poll", w.Datagrams())
	}
	do(w, poll)
	var got []string
	for n := 3; n <= w.Datagrams(); n++ {
		b := w.Letter(n)
		if b[0] == 0xf0 {
			got = append(got, "Retry")
			continue
		}
		h := first(t, b)
		got = append(got, string(h.From[:1])+string(h.To[:1])+string(rune('0'+h.From[7]))+string(rune('0'+h.To[7])))
	}
	if want := []string{"cg11", "cg22", "\x00c12", "Retry"}; !slices.Equal(got, want) {
		t.Errorf("P24.1: %q, not %q", got, want)
	}
}

// The datagram comes as often as one wants, where it goes.
func TestP24_1Come(t *testing.T) {
	w := served(1)
	do(w, serve, 1, 0, 9, 9, 9)
	do(w, dial, 2, 1)
	do(w, dial, 2, 1)
	do(w, poll)
	for n := 1; n <= 3; n++ {
		do(w, come, 2)
		if l := w.Peers(2); len(w.Peers(1)) != 0 || len(l) != 1 || l[0].Talk.State().In != n*len(w.Letter(2)) || !slices.Equal(l[0].Talk.State().Peer, name('c', 2)) {
			t.Fatalf("P24.1: it comes %d times: %v", n, l)
		}
	}
	do(w, poll)
	for n := 1; n <= 3; n++ {
		do(w, come, 3)
		if a, b := guest(w, 1).Talk.State().In, guest(w, 2).Talk.State().In; a != 0 || b != n*len(w.Letter(3)) {
			t.Errorf("P24.1: it comes %d times: %d bytes, %d", n, a, b)
		}
	}
	for _, n := range []int{0, -1, w.Datagrams() + 1, math.MinInt, math.MaxInt} {
		was := guest(w, 2).Talk.State().In
		do(w, come, n)
		if guest(w, 2).Talk.State().In != was || w.Peers(2)[0].Talk.State().In != 3*len(w.Letter(2)) {
			t.Errorf("P24.1: the datagram %d comes", n)
		}
	}
}

// He may lead each datagram to each server, from each address.
func TestP24_1Lead(t *testing.T) {
	w := served(1)
	do(w, serve, 1, 0, 9, 9, 9)
	for range 3 {
		do(w, dial, 1, 1)
	}
	do(w, poll)
	do(w, lead, 1, 2, 3)
	if l := w.Peers(2); len(w.Peers(1)) != 0 || len(l) != 1 || !slices.Equal(l[0].Talk.State().Peer, name('c', 1)) {
		t.Fatalf("P24.1: %v, %v", w.Peers(1), l)
	}
	do(w, poll)
	if was := w.Datagrams(); was < 4 {
		t.Fatalf("P24.1: %d datagrams", was)
	}
	for n := 4; n <= w.Datagrams(); n++ { // they go to the address 3, though the client 1 is meant
		do(w, come, n)
	}
	if a, b := guest(w, 1).Talk.State().In, guest(w, 3).Talk.State().In; a != 0 || b == 0 {
		t.Errorf("P24.1: %d bytes, %d bytes", a, b)
	}
	was := w.Peers(2)[0].Talk.State().In
	for _, l := range [][]int{{0, 2, 3}, {-1, 2, 3}, {9999, 2, 3}, {1, 0, 3}, {1, 3, 3}, {1, -1, 3}, {1, 2, -1}, {1, 2, math.MinInt}, {1, 2, 1 << 62}, {math.MinInt, math.MaxInt, 3}} {
		do(w, lead, l...)
		if len(w.Peers(1)) != 0 || len(w.Peers(2)) != 1 || w.Peers(2)[0].Talk.State().In != was || guest(w, 3).Talk.State().In == 0 {
			t.Errorf("P24.1: lead %v: %v", l, w.Peers(2))
		}
	}
	for i, address := range []int{0, 4, 1000, 1<<62 - 1} { // nobody is there: it is sent all the same
		do(w, lead, 2, 1, address)
		n := w.Datagrams()
		do(w, poll)
		if len(w.Peers(1)) != i+1 || w.Datagrams() == n {
			t.Errorf("P24.1: from %d: %d sides, %d datagrams", address, len(w.Peers(1)), w.Datagrams()-n)
		}
		for n++; n <= w.Datagrams(); n++ {
			do(w, come, n)
		}
	}
	if guest(w, 1).Talk.State().In != 0 || guest(w, 2).Talk.State().In != 0 {
		t.Error("P24.1: what goes nowhere comes")
	}
	do(w, lead, 4, 2, 3) // what goes to a client is led, too
	if w.Peers(2)[0].Talk.State().In != was {
		t.Errorf("P24.1: %v", w.Peers(2))
	}
}

// The time goes on, and all tick.
func TestP24_1Tick(t *testing.T) {
	w := talking(t, 1)
	rounds(w, 3)
	for i, a := range []int{0, 1, 1000, 7} {
		do(w, tick, a)
		if want := []int{0, 1, 1001, 1008}[i]; w.Now() != want {
			t.Errorf("P24.1: the time is %d, not %d", w.Now(), want)
		}
	}
	do(w, send, 1)
	do(w, reply, 1, 1)
	for _, a := range []int{-1, 1001, math.MinInt, math.MaxInt} {
		do(w, poll)
		was := w.Datagrams()
		do(w, tick, a)
		do(w, poll)
		if w.Now() != 1008 || w.Datagrams() != was {
			t.Errorf("P24.1: tick %d: the time %d, %d datagrams", a, w.Now(), w.Datagrams()-was)
		}
	}
	was := w.Datagrams()
	do(w, tick)
	do(w, poll)
	if w.Datagrams() != was+2 {
		t.Errorf("P24.1: behind a tick %d datagrams are sent", w.Datagrams()-was)
	}
}

// Tickets and tokens are of the world's time.
func TestP24_1Lifetimes(t *testing.T) {
	for late, want := range map[int]bool{5: true, 6: false} {
		w := world.New()
		do(w, serve, 1, 0, 100, 100, 5)
		do(w, dial, 1, 1)
		rounds(w, 6)
		do(w, tick, late)
		do(w, dial, 1, 1, 0, 1)
		rounds(w, 6)
		if f := guest(w, 2).Talk.Facts(); !f.Done || (f.Ticket != 0) != want {
			t.Errorf("P24.1: a ticket %d later: %v", late, f)
		}
		w = world.New()
		do(w, serve, 1, 1, 100, 100, 5)
		do(w, dial, 1, 1)
		rounds(w, 1)
		do(w, poll)
		do(w, come, w.Datagrams()) // the Retry
		do(w, tick, late)
		rounds(w, 6)
		if got := guest(w, 1).Talk.Facts().Done; got != want {
			t.Errorf("P24.1: a Retry's token %d later: %t", late, got)
		}
	}
}

// A client, or a server's side, changes its secret to write with.
func TestP24_1Update(t *testing.T) {
	for _, l := range [][]int{{1, 0}, {1, 1}, {1, 0, 5}} {
		w := talking(t, 2)
		do(w, send, 1)
		do(w, reply, 1, 1)
		rounds(w, 3)
		do(w, update, l...)
		do(w, send, 1)
		do(w, reply, 1, 1)
		was := w.Datagrams()
		do(w, poll)
		if w.Datagrams() != was+2 {
			t.Fatalf("P24.1: %d datagrams", w.Datagrams()-was)
		}
		a, b := first(t, w.Letter(was+1)), first(t, w.Letter(was+2))
		if ofClient := l[1] == 0; (a.Phase == 1) != ofClient || (b.Phase == 1) != !ofClient {
			t.Errorf("P24.1: update %v: the phases %d, %d", l, a.Phase, b.Phase)
		}
		do(w, come, was+1)
		do(w, come, was+2)
		rounds(w, 2)
		if len(guest(w, 1).Got) != 2 || len(side(w, 1).Got) != 2 {
			t.Errorf("P24.1: update %v: %v, %v", l, guest(w, 1), side(w, 1))
		}
	}
	w := talking(t, 1)
	for _, l := range [][]int{{0}, {2}, {-1}, {0, 1}, {2, 1}, {1, 2}, {1, -1}, {math.MinInt, math.MaxInt}} {
		do(w, update, l...)
	}
	do(w, send, 1)
	do(w, poll)
	if h := first(t, w.Letter(w.Datagrams())); h.Kind != api.App || h.Phase != 0 {
		t.Errorf("P24.1: update of what is not there: %v", h)
	}
}

// A client, or a server's side, closes with a code.
func TestP24_1Close(t *testing.T) {
	for _, x := range []struct{ a, code, c, want int }{{1, 7, 0, 7}, {1, 0, 0, 0}, {1, -5, 0, 0}, {1, 9, 1, 9}, {1, 1<<20 + 1, 1, 1 << 20}} {
		w := talking(t, 2)
		do(w, end, x.a, x.code, x.c)
		c, p := guest(w, 1).Talk.State(), side(w, 1).Talk.State()
		if c.Closed != (x.c == 0) || p.Closed != (x.c != 0) || guest(w, 2).Talk.State().Closed || side(w, 2).Talk.State().Closed {
			t.Errorf("P24.1: close %v: %v, %v", x, c, p)
		}
		was := w.Datagrams()
		do(w, poll)
		var codes []int
		for n := was + 1; n <= w.Datagrams(); n++ {
			do(w, come, n)
			for _, h := range carried(w.Letter(n)) {
				for _, f := range frames(w, h) {
					if f.Kind == closeKind {
						codes = append(codes, f.Count)
					}
				}
			}
		}
		if !slices.Equal(codes, []int{x.want}) || !guest(w, 1).Talk.State().Closed || !side(w, 1).Talk.State().Closed {
			t.Errorf("P24.1: close %v: the codes %v", x, codes)
		}
	}
	w := talking(t, 1)
	for _, l := range [][]int{{0, 5}, {2, 5}, {-1, 5}, {0, 5, 1}, {2, 5, 1}, {1, 5, 2}, {1, 5, -1}, {math.MinInt, 5, math.MaxInt}} {
		do(w, end, l...)
		if guest(w, 1).Talk.State().Closed || side(w, 1).Talk.State().Closed {
			t.Errorf("P24.1: close %v", l)
		}
	}
}

// An act that is none does nothing.
func TestP24_1NoAct(t *testing.T) {
	w := talking(t, 1)
	size, many := w.Table().Size(), w.Datagrams()
	for _, what := range []int{-1, 13, 99, math.MinInt, math.MaxInt} {
		if h := w.Do(world.Act{What: what, A: 1, B: 1, C: 1, D: 1, E: 1, Text: []byte("x"), Data: w.Letter(1)}); h != 0 {
			t.Errorf("P24.1: the act %d makes %d", what, h)
		}
	}
	if w.Table().Size() != size || w.Datagrams() != many || len(w.Clients()) != 1 || w.Servers() != 1 || w.Now() != 0 {
		t.Error("P24.1: an act that is none does something")
	}
}

// No act but send, reply and make tells a term.
func TestP24_1Tells(t *testing.T) {
	w := talking(t, 1)
	for what := serve; what <= hand; what++ {
		for _, l := range [][]int{{1, 1, 1, 1, 1}, {1}, {1, 2}, {1, 3}} {
			h := w.Do(world.Act{What: what, A: l[0], B: append(l, 0)[1], Data: w.Letter(1)})
			if may := what == send || what == reply || what == makes; h != 0 && !may {
				t.Errorf("P24.1: the act %d of %v tells %d", what, l, h)
			}
		}
	}
}

// Datagrams have their numbers, and more than 16384 are not sent, nor heard.
func TestP24_1Letters(t *testing.T) {
	w := served(1)
	do(w, serve, 1, 0, 1, 1, 1)
	for range 60 {
		do(w, dial, 2, 1)
	}
	for range 16384 / 60 {
		do(w, tick)
		do(w, poll)
	}
	was := w.Datagrams()
	last := w.Letter(was)
	do(w, tick)
	do(w, poll)
	if w.Datagrams() != 16384 || was < 16300 {
		t.Fatalf("P24.1: %d datagrams behind %d", w.Datagrams(), was)
	}
	if h := first(t, w.Letter(16384)); !slices.Equal(h.From, name('c', 16384-was)) || !slices.Equal(w.Letter(was), last) {
		t.Errorf("P24.1: the last one comes from %x", h.From)
	}
	size := w.Table().Size()
	do(w, poll) // what was cut off by the bound
	do(w, dial, 1, 1)
	do(w, poll) // the new client's hello alone is due
	if w.Datagrams() != 16384 || len(w.Letter(16385)) != 0 {
		t.Errorf("P24.1: %d datagrams", w.Datagrams())
	}
	for h := size + 1; h <= w.Table().Size(); h++ {
		if n, _ := w.Table().Look(api.Term(h)); n.Kind == secretKind && w.Can(api.Term(h)) {
			t.Errorf("P24.1: he hears %d, which was not sent", h)
		}
	}
	do(w, come, 16384)
	if l := w.Peers(2); len(l) != 1 || !slices.Equal(l[0].Talk.State().Peer, name('c', 16384-was)) {
		t.Errorf("P24.1: %v", l)
	}
	for _, n := range []int{0, -1, 16385, math.MinInt, math.MaxInt} {
		if len(w.Letter(n)) != 0 {
			t.Errorf("P24.1: the datagram %d has bytes", n)
		}
	}
}
