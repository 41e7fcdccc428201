package world_test

import (
	"bytes"
	"fmt"
	"math"
	"math/rand/v2"
	"reflect"
	"slices"
	"strings"
	"testing"

	"shibboleth/api"
	"shibboleth/world"
)

func TestP24_1OfNil(t *testing.T) {
	var w *world.World
	for what := -1; what <= hand+1; what++ {
		if h := w.Do(world.Act{What: what, A: 1, B: 1, C: 1, Text: []byte("x"), Data: []byte("x")}); h != 0 {
			t.Errorf("P24.1: of nil the act %d makes %d", what, h)
		}
	}
	c, is := w.Config(1)
	a, b := w.Leaked(1)
	d, e := w.Spoilt(1)
	if is || !reflect.DeepEqual(c, zeroConfig) || a || b || d || e || w.Table() != nil || w.Can(1) {
		t.Error("P24.1: of nil")
	}
	if len(w.Clients()) != 0 || w.Servers() != 0 || len(w.Peers(1)) != 0 || w.Datagrams() != 0 || len(w.Letter(1)) != 0 || w.Now() != 0 {
		t.Error("P24.1: of nil")
	}
}

// Of a number that nobody has there is nothing.
func TestP24_1NoSuch(t *testing.T) {
	w := talking(t, 1)
	for _, n := range []int{0, -1, 2, 9, math.MinInt, math.MaxInt} {
		if c, is := w.Config(n); is || !reflect.DeepEqual(c, zeroConfig) || len(w.Peers(n)) != 0 {
			t.Errorf("P24.1: a server %d: %v", n, c)
		}
	}
	for _, h := range []api.Term{0, -1, api.Term(w.Table().Size() + 1), math.MinInt, math.MaxInt} {
		if w.Can(h) {
			t.Errorf("P24.1: he can make %d", h)
		}
	}
}

// R4: what is told is new memory, but for talks, tables and stores.
func TestR4Told(t *testing.T) {
	w := talking(t, 2)
	h := do(w, send, 1)
	g := do(w, reply, 1, 1)
	rounds(w, 2)
	for range 2 {
		c, s := w.Clients(), w.Peers(1)
		if !slices.Equal(c[0].Sent, []api.Term{h}) || !slices.Equal(terms(c[0].Got), []api.Term{g}) || !slices.Equal(c[0].Offers, []int{1}) {
			t.Errorf("R4: a client: %v", c[0])
		}
		if !slices.Equal(s[0].Sent, []api.Term{g}) || !slices.Equal(terms(s[0].Got), []api.Term{h}) {
			t.Errorf("R4: a side: %v", s[0])
		}
		config, _ := w.Config(1)
		if !slices.Equal(config.Server.Versions, []int{1}) || w.Letter(1)[0] != 0xc3 {
			t.Errorf("R4: %v", config)
		}
		for _, l := range [][]api.Term{c[0].Sent, s[0].Sent} {
			clear(l[:cap(l)])
		}
		clear(c[0].Got)
		clear(s[0].Got)
		clear(c[0].Offers)
		clear(config.Server.Versions)
		clear(w.Letter(1))
		clear(c)
		clear(s)
	}
	if w.Table() != w.Table() || guest(w, 1).Talk != guest(w, 1).Talk || side(w, 2).Talk != side(w, 2).Talk || guest(w, 1).Talk == guest(w, 2).Talk {
		t.Error("R4: tables and talks are shared")
	}
	do(w, dial, 1, 1)
	rounds(w, 6)
	if !guest(w, 3).Talk.Facts().Done || !slices.Equal(guest(w, 3).Offers, []int{1}) {
		t.Error("R4: what was told is kept")
	}
}

// R4: what is handed in is not changed and not kept.
func TestR4HandedIn(t *testing.T) {
	w := served(1)
	s := append(make([]byte, 0, 20), "a text"...)
	h := w.Do(world.Act{What: makes, A: textKind, Text: s})
	if string(s[:6]) != "a text" || slices.Max(s[6:20]) > 0 {
		t.Errorf("R4: a text is changed: %q", s)
	}
	clear(s)
	if n, _ := w.Table().Look(h); n.Text != "a text" {
		t.Errorf("R4: a text is kept: %q", n.Text)
	}
	do(w, dial, 1, 1)
	do(w, poll)
	for n := 1; n <= w.Datagrams(); n++ { // the whole talk by hand
		b := w.Letter(n)
		in := append(make([]byte, 0, 2*len(b)), b...)
		if bytes.Equal(first(t, b).To, name('c', 1)) {
			toClient(w, 1, in)
		} else {
			toServer(w, 1, 1, in)
		}
		if !bytes.Equal(in, b) || slices.Max(in[len(b):cap(in)]) > 0 {
			t.Error("R4: a datagram is changed")
		}
		clear(in)
		if n == w.Datagrams() {
			do(w, tick)
			do(w, poll)
		}
	}
	if s := guest(w, 1).Talk.State(); !s.Confirmed || len(w.Peers(1)) != 1 || !slices.Equal(side(w, 1).Talk.State().Peer, name('c', 1)) {
		t.Errorf("R4: by hand: %v", s)
	}
}

// R5: what a world answers hangs on its acts alone.
func TestR5TheSameTwice(t *testing.T) {
	for seed := range 30 {
		var told [2]string
		for i := range told {
			p := newPlay(t, seed, seed%2 == 0)
			for range 400 {
				p.acts()
			}
			told[i] = tells(p.w)
		}
		if told[0] != told[1] {
			t.Fatalf("R5: the play %d:\n%s\n%s", seed, told[0], told[1])
		}
	}
}

// tells says all that there is of a world.
func tells(w *world.World) string {
	var b strings.Builder
	fmt.Fprint(&b, w.Now(), w.Table().Size(), w.Servers(), w.Datagrams())
	for h := range w.Table().Size() {
		n, _ := w.Table().Look(api.Term(h + 1))
		fmt.Fprint(&b, n, w.Can(api.Term(h+1)))
	}
	for n := range w.Datagrams() {
		fmt.Fprintf(&b, "%x ", w.Letter(n+1))
	}
	for n, c := range w.Clients() {
		traffic, resume := w.Spoilt(n + 1)
		fmt.Fprint(&b, c.Server, c.Offers, c.Ticket, c.Sent, c.Got, c.Talk.State(), c.Talk.Facts(), traffic, resume)
	}
	for s := range w.Servers() {
		secret, key := w.Leaked(s + 1)
		fmt.Fprint(&b, secret, key)
		for _, p := range w.Peers(s + 1) {
			fmt.Fprint(&b, p.Sent, p.Got, p.Talk.State(), p.Talk.Facts())
		}
	}
	return b.String()
}

// R1: whatever the acts, all calls end.
func TestR1AnyActs(t *testing.T) {
	for seed := range 60 {
		r := rand.New(rand.NewPCG(1, uint64(seed)))
		w := world.New()
		number := func() int {
			switch r.IntN(8) {
			case 0:
				return []int{math.MinInt, math.MaxInt, -1, 1 << 62, 1 << 32, 1<<16 + 1}[r.IntN(6)]
			case 1:
				return r.IntN(1000) - 20
			}
			return r.IntN(5)
		}
		for range 500 {
			x := world.Act{What: r.IntN(15) - 1, A: number(), B: number(), C: number(), D: number(), E: number()}
			x.Text = make([]byte, r.IntN(4)*r.IntN(1000))
			x.Data = w.Letter(1 + r.IntN(w.Datagrams()+1))
			if len(x.Data) > 0 && r.IntN(2) == 0 {
				x.Data[r.IntN(len(x.Data))]++
			}
			w.Do(x)
		}
		if l := broken(w); slices.Contains(l, "unique") || slices.Contains(l, "early") {
			t.Errorf("P24.2: the acts %d: broken: %v", seed, l)
		}
	}
}

// R1: in a full table all acts end, and what needs a new term is not done.
func TestR1AFullTable(t *testing.T) {
	for room := range 40 {
		w := talking(t, 1)
		do(w, dial, 1, 1, 0, 1, 1)
		for n := 0; w.Table().Size() < api.MaxTerms-room; n++ {
			text(w, fmt.Sprint("text ", n))
		}
		for _, l := range [][]int{{dial, 1, 1}, {serve, 1}, {send, 1}, {reply, 1, 1}, {makes, secretKind}, {makes, rowKind, 1}, {dial, 1, 1, 0, 1, 1}} {
			do(w, l[0], l[1:]...)
			rounds(w, 1)
		}
		rounds(w, 3)
		for what := serve; what <= hand; what++ {
			if h := do(w, what, 1, 2, 0); h != 0 && w.Table().Size() == api.MaxTerms && what != makes {
				t.Errorf("P24.1: a room of %d: the act %d tells %d", room, what, h)
			}
		}
		servers, clients := w.Servers(), len(w.Clients())
		if room == 0 && (servers != 1 || clients != 2 || len(guest(w, 1).Sent)+len(side(w, 1).Sent) != 0) {
			t.Errorf("P24.1: in a full table there are %d servers, %d clients, %v", servers, clients, guest(w, 1).Sent)
		}
		for s := range servers {
			c, is := w.Config(s + 1)
			if !is || c.Server.Secret == 0 || c.Server.Key == 0 || c.Key == 0 {
				t.Errorf("P24.1: a room of %d: a server has %v", room, c)
			}
		}
		if l := broken(w); len(l) != 0 {
			t.Errorf("P24.2: a room of %d: broken: %v", room, l)
		}
	}
}
