package listen_test

import (
	"bytes"
	"fmt"
	"math/rand/v2"
	"reflect"
	"slices"
	"testing"

	"shibboleth/api"
	"shibboleth/conn"
	"shibboleth/ideal"
	"shibboleth/listen"
	"shibboleth/special"
	"shibboleth/token"
)

// town is a listener, clients at addresses, and what lies between: datagrams are lost, come twice, late, in another order.
type town struct {
	t       *testing.T
	r       *rand.Rand
	h       *house
	l       *listen.Listener
	clients []*conn.Conn // the address of each one is its place and 1
	sent    [][]api.Term
	up      []listen.Mail // on its way to the listener, from an address
	down    []listen.Mail
	loss    int // of 10
	now     int
}

func newTown(t *testing.T, seed int) *town {
	r := rand.New(rand.NewPCG(23, uint64(seed)))
	h := newHouse(r.IntN(2) > 0)
	h.config.Life = 1000
	w := &town{t: t, r: r, h: h, l: h.listens(t), loss: r.IntN(8), now: r.IntN(3)}
	for n := range 1 + r.IntN(5) {
		offers := [][]int{{1}, {2, 1}, {1, 2}, {7, 2}, {9, 1, 2}}[r.IntN(5)]
		w.clients = append(w.clients, h.dials(t, n+1, offers...))
		w.sent = append(w.sent, nil)
	}
	return w
}

// acts lets one of this and that be done.
func (w *town) acts() {
	n := w.r.IntN(len(w.clients))
	switch w.r.IntN(6) {
	case 0:
		w.says(n)
	case 1:
		w.down = append(w.down, w.l.Poll(w.now)...)
	case 2:
		w.up = w.come(w.up, func(m listen.Mail) { w.l.Deliver(m.Address, m.Data, w.now) })
	case 3:
		w.down = w.come(w.down, w.gets)
	case 4:
		w.clients[n].Tick()
		w.l.Tick()
		w.now += w.r.IntN(3)
	case 5:
		x := w.h.x.Secret()
		if len(w.sent[n]) < 5 && w.clients[n].Send(x) == api.OK {
			w.sent[n] = append(w.sent[n], x)
		}
	}
}

// says lets what a client has to say go on its way.
func (w *town) says(n int) {
	for _, b := range w.clients[n].Poll(w.now) {
		w.up = append(w.up, listen.Mail{Address: n + 1, Data: b})
	}
}

// gets lets a client get its mail; at some addresses there may be none.
func (w *town) gets(m listen.Mail) {
	if len(m.Data) > api.MaxDatagram {
		w.t.Errorf("P23.1: mail of %d bytes for %d", len(m.Data), m.Address)
	}
	if m.Address > 0 && m.Address <= len(w.clients) {
		w.clients[m.Address-1].Deliver(m.Data, w.now)
	}
}

// come lets some of what is on its way come, or be lost, and tells the rest.
func (w *town) come(l []listen.Mail, gets func(listen.Mail)) []listen.Mail {
	w.r.Shuffle(len(l), func(a, b int) { l[a], l[b] = l[b], l[a] })
	for range w.r.IntN(len(l) + 1) {
		m := l[0]
		if w.r.IntN(6) > 0 {
			l = l[1:]
		}
		if w.r.IntN(10) >= w.loss {
			gets(m)
		}
	}
	return l
}

// calm lets all come in rounds, what is on its way at first.
func (w *town) calm(rounds int) {
	for range rounds {
		for n := range w.clients {
			w.says(n)
		}
		for _, m := range w.up {
			w.l.Deliver(m.Address, m.Data, w.now)
		}
		w.down = append(w.down, w.l.Poll(w.now)...)
		for _, m := range w.down {
			w.gets(m)
		}
		w.up, w.down = nil, nil
		for _, c := range w.clients {
			c.Tick()
		}
		w.l.Tick()
	}
}

// partners tells the talks that have a client's secrets.
func (w *town) partners(n int) []int {
	var all []int
	mine := w.clients[n].Facts()
	for k := 1; k <= w.l.Talks(); k++ {
		f := w.l.Talk(k).Facts()
		f.Peer, f.Mine, f.Theirs = mine.Peer, f.Theirs, f.Mine
		if mine.Done && reflect.DeepEqual(f, mine) {
			all = append(all, k)
		}
	}
	return all
}

// P6: behind a calm each client is done, with just one talk, from its address, that took what it sent.
func TestP23_2AllComesAtLast(t *testing.T) {
	retried, listed := 0, 0
	for seed := range 300 {
		w := newTown(t, seed)
		for range w.r.IntN(400) {
			w.acts()
		}
		w.calm(10)
		for n, c := range w.clients {
			l := w.partners(n)
			if s := c.State(); len(l) != 1 || !s.Confirmed || s.Fail != api.OK || s.Closed {
				t.Errorf("P23.2: the town %d: the client %d is %v, of the talks %v", seed, n+1, s, l)
				continue
			}
			var got []api.Term
			talk := w.l.Talk(l[0])
			taken := talk.Recv()
			slices.SortFunc(taken, func(a, b conn.Got) int { return a.Number - b.Number })
			for _, x := range taken {
				got = append(got, x.Term)
			}
			if !slices.Equal(got, w.sent[n]) || w.l.Address(l[0]) != n+1 || !talk.State().Confirmed {
				t.Errorf("P23.2: the town %d: the client %d sent %v, its talk took %v", seed, n+1, w.sent[n], got)
			}
			said, e := token.Look(w.h.x, w.h.config.Key, c.State().Token)
			if e != api.OK || !said.Later || said.Address != n+1 {
				t.Errorf("P23.2: the town %d: the client %d got a token of %v, %d", seed, n+1, said, e)
			}
			if goals(t, w.l, l[0]).HasRetry != w.h.config.Shown {
				t.Errorf("P23.2: the town %d: the client %d was asked for its address: %t", seed, n+1, !w.h.config.Shown)
			}
			if c.State().Version != 1 && c.State().Version == c.Facts().Version {
				listed++
			}
		}
		if w.h.config.Shown {
			retried++
		}
		if m := w.l.Poll(w.now); len(m) != 0 {
			t.Errorf("P23.2: the town %d goes on: %v", seed, m)
		}
	}
	if retried < 50 || listed < 50 {
		t.Errorf("P23.2: %d towns with Retries, %d clients with lists", retried, listed)
	}
}

// A round is a poll of all, and all that was said comes.
func TestP23_2Rounds(t *testing.T) {
	for _, shown := range []bool{false, true} {
		h := newHouse(shown)
		l := h.listens(t)
		c := h.dials(t, 1, 7, 2)
		for range 7 {
			carry(l, place, c, hour)
		}
		if s := c.State(); !s.Confirmed || l.Talks() != 1 || !l.Talk(1).State().Confirmed || c.Facts().Version != 2 {
			t.Errorf("P23.2: addresses shown %t: %v, %d talks", shown, s, l.Talks())
		}
	}
}

// Where addresses are asked for, nothing is kept of a datagram without a token, and the same comes of the next one.
func TestP23_2NothingIsKept(t *testing.T) {
	h := newHouse(true)
	l := h.listens(t)
	b := h.writes(t, right())
	l.Deliver(place, b, hour)
	first := l.Poll(hour)
	size := h.x.Size()
	for range 300 {
		l.Deliver(place, b, hour)
		if m := l.Poll(hour); !reflect.DeepEqual(m, first) || l.Talks() != 0 {
			t.Fatalf("P23.2: %v, not %v; %d talks", m, first, l.Talks())
		}
	}
	if h.x.Size() != size {
		t.Errorf("P23.2: %d terms more", h.x.Size()-size)
	}
	l.Tick()
	if m := l.Poll(hour); len(m) != 0 {
		t.Errorf("P23.2: %v", m)
	}
}

// A talk begins only with a token that was made for that address, within the lifetime, whoever has it.
func TestP23_2NoTalkWithoutAToken(t *testing.T) {
	r := rand.New(rand.NewPCG(23, 2))
	h := newHouse(true)
	l := h.listens(t)
	type given struct {
		retry   special.Retry
		address int
		time    int
	}
	var all []given
	has := map[api.Term]struct{}{} // the tokens with which a talk began
	for i := range 1500 {
		now, address := r.IntN(8), r.IntN(3)
		if len(all) < 5 || i%7 == 0 {
			l.Deliver(address, h.writes(t, right().to(named('g', r.IntN(50)))), now)
			for _, m := range l.Poll(now) {
				if x, e := special.ReadRetry(m.Data); e == api.OK {
					all = append(all, given{x, address, now})
				}
			}
			continue
		}
		x := all[r.IntN(len(all))]
		p := right().to(x.retry.From)
		p.token = ideal.Number(x.retry.Token)
		before := l.Talks()
		_, had := has[x.retry.Token]
		l.Deliver(address, h.writes(t, p), now)
		may := address == x.address && now >= x.time && now-x.time <= life && !had
		if got := l.Talks() > before; got != may {
			t.Fatalf("P23.2: from %d at %d with a token of %v: a talk begins: %t", address, now, x, got)
		}
		if may {
			has[x.retry.Token] = struct{}{}
		}
	}
	if len(has) < 20 {
		t.Errorf("P23.2: %d talks", len(has))
	}
}

// To an address that has shown nothing it sends at most three times as many bytes as came from it, but for answers.
func TestP23_2ThreeTimes(t *testing.T) {
	for seed := range 60 {
		r := rand.New(rand.NewPCG(23, uint64(3000+seed)))
		h := newHouse(r.IntN(2) > 0)
		h.config.Life = 1000
		l := h.listens(t)
		firsts := h.firsts(t, r)
		var in, out [4]int
		answers, came := map[int]int{}, map[int]int{} // how many of each size at least
		for range 300 {
			address := r.IntN(4)
			b := firsts[r.IntN(len(firsts))]
			if r.IntN(5) == 0 {
				b = b[:r.IntN(len(b))]
			}
			switch r.IntN(4) {
			case 0:
				l.Tick()
			default:
				l.Deliver(address, b, 1)
				in[address] += len(b)
				came[address]++
			}
			for _, m := range l.Poll(1) {
				if isList(m.Data) || isRetry(m.Data) {
					answers[m.Address]++
					if len(m.Data) > least || m.Address != address {
						t.Errorf("P23.2: an answer of %d bytes for %d", len(m.Data), m.Address)
					}
					continue
				}
				out[m.Address] += len(m.Data)
			}
			for address := range in {
				if out[address] > 3*in[address] || answers[address] > came[address] {
					t.Fatalf("P23.2: the town %d: %d bytes and %d answers for %d, from which %d bytes came in %d datagrams", seed, out[address], answers[address], address, in[address], came[address])
				}
			}
		}
		if l.Talks() == 0 || slices.Max(out[:]) < wide {
			t.Errorf("P23.2: %d talks, %v bytes", l.Talks(), out)
		}
	}
}

// firsts tells datagrams with which talks begin, or nearly.
func (h *house) firsts(t *testing.T, r *rand.Rand) [][]byte {
	t.Helper()
	var all [][]byte
	for n := range 12 {
		p := right().to(named('g', n))
		p.from = named('c', n)
		p.said = h.hello(t, p)
		switch n % 4 {
		case 1:
			p.version = 3
		case 2, 3:
			_, p.token = h.mints(t, h.config.Key, token.Token{Later: true, Address: r.IntN(4), Time: 1})
		}
		all = append(all, h.writes(t, p))
	}
	return all
}

// Whatever bytes come to the listener, nothing breaks, and behind a calm each client is done.
func TestR1AnyBytes(t *testing.T) {
	for seed := range 100 {
		w := newTown(t, 1000+seed)
		for range 100 {
			w.acts()
			if len(w.up) == 0 {
				continue
			}
			m := w.up[w.r.IntN(len(w.up))]
			b := bytes.Clone(m.Data)
			switch w.r.IntN(4) {
			case 0:
				b = b[:w.r.IntN(len(b)+1)]
			case 1:
				b[w.r.IntN(len(b))] ^= byte(1 + w.r.IntN(255))
			case 2:
				b[w.r.IntN(30)] ^= byte(1 + w.r.IntN(255))
			case 3:
				b = append(b, make([]byte, w.r.IntN(50))...)
			}
			w.l.Deliver(m.Address-1+w.r.IntN(3), b, w.now-1+w.r.IntN(3))
			w.down = append(w.down, w.l.Poll(w.now)...)
		}
		w.now++ // a token may have been made then
		w.calm(12)
		for n := range w.clients {
			if l := w.partners(n); len(l) != 1 || !w.clients[n].State().Confirmed {
				t.Errorf("P23.2: the town %d: the client %d is %v, of the talks %v", seed, n+1, w.clients[n].State(), l)
			}
		}
	}
}

// R4: what is handed in is neither changed nor kept; what is told is new memory.
func TestR4(t *testing.T) {
	for _, shown := range []bool{false, true} {
		h := newHouse(shown)
		offers := slices.Clone(h.config.Server.Versions)
		l := h.listens(t)
		h.config.Server.Versions[0], h.config.Server.Versions[1] = 8, 9
		c := h.dials(t, 1, 7, 2)
		for range 7 {
			for _, b := range c.Poll(hour) {
				in := append(make([]byte, 0, 2*len(b)), b...)
				l.Deliver(place, in, hour)
				if !bytes.Equal(in, b) || slices.Max(in[len(b):2*len(b)]) > 0 {
					t.Error("R4: a datagram is changed")
				}
				clear(in)
			}
			for _, m := range l.Poll(hour) {
				c.Deliver(m.Data, hour)
				clear(m.Data[:cap(m.Data)])
			}
			c.Tick()
			l.Tick()
		}
		if s := c.State(); !s.Confirmed || !slices.Equal(offers, []int{1, 2}) {
			t.Errorf("R4: %v", s)
		}
		// A goal and a name are not kept where they were handed in.
		p := h.shown(t, place, hour).to(named('h', 1))
		b := h.writes(t, p)
		in := bytes.Clone(b)
		l.Deliver(place, in, hour)
		clear(in)
		h.gives(t, l, place, p, 2)
	}
}

// R5: what it answers hangs on what was done alone.
func TestR5TheSameTwice(t *testing.T) {
	for seed := range 20 {
		var told [2]string
		for i := range told {
			w := newTown(t, seed)
			for range 300 {
				w.acts()
			}
			w.calm(8)
			told[i] = fmt.Sprint(w.l.Talks(), w.h.x.Size(), came(w.l), w.sent)
			for n, c := range w.clients {
				told[i] += fmt.Sprint(c.State(), c.Facts(), w.partners(n))
			}
		}
		if told[0] != told[1] {
			t.Errorf("R5: the town %d:\n%s\n%s", seed, told[0], told[1])
		}
	}
}
