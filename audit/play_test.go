package audit_test

import (
	"math/rand/v2"
	"slices"
	"testing"

	"shibboleth/api"
	"shibboleth/audit"
	"shibboleth/client"
	"shibboleth/ticket"
	"shibboleth/world"
)

// play is a world in which acts are done by chance, those of somebody who stands between among them.
type play struct {
	t      *testing.T
	r      *rand.Rand
	w      *world.World
	leaks  bool // may he learn secrets?
	learnt bool // has he?
	own    api.Term
	comes  int // how often he has come as a client: his next address
}

func newPlay(t *testing.T, seed int, leaks bool) *play {
	p := &play{t: t, r: rand.New(rand.NewPCG(25, uint64(seed))), w: world.New(), leaks: leaks}
	for range 1 + p.r.IntN(2) {
		do(p.w, serve, p.one(1, 12, 21, 312), p.r.IntN(2), p.one(0, 3, 9, 90), p.r.IntN(5), p.one(0, 5, 90))
	}
	p.own = do(p.w, makes, secretKind)
	for range 2 {
		p.dials()
	}
	return p
}

// one tells one of those numbers.
func (p *play) one(l ...int) int { return l[p.r.IntN(len(l))] }

// any tells a number from 1 to n, seldom one beside.
func (p *play) any(n int) int {
	if p.r.IntN(40) == 0 {
		return p.one(0, -1, n+1, n+70)
	}
	return 1 + p.r.IntN(max(n, 1))
}

func (p *play) server() int { return p.any(p.w.Servers()) }

func (p *play) client() int { return p.any(len(p.w.Clients())) }

// late tells a datagram, mostly one of the last ones.
func (p *play) late() int {
	if p.r.IntN(4) == 0 {
		return p.any(p.w.Datagrams())
	}
	return max(1, p.w.Datagrams()-p.r.IntN(5))
}

func (p *play) dials() {
	do(p.w, dial, p.server(), p.one(1, 12, 21, 13, 31), p.r.IntN(2), p.r.IntN(len(p.w.Clients())+1), p.one(0, 1, 1))
}

// acts lets one thing be done.
func (p *play) acts() {
	s := p.server()
	side := p.any(len(p.w.Peers(s)))
	switch n := p.r.IntN(100); {
	case n < 2:
		p.dials()
	case n < 8:
		do(p.w, send, p.client())
	case n < 13:
		do(p.w, reply, s, side)
	case n < 36:
		do(p.w, poll)
	case n < 66:
		do(p.w, come, p.late())
	case n < 72:
		do(p.w, lead, p.late(), s, p.r.IntN(90))
	case n < 80:
		do(p.w, tick, p.one(0, 0, 0, 0, 1, 2, 7))
	case n < 84:
		do(p.w, update, p.client())
	case n < 88:
		do(p.w, update, s, side)
	case n < 89 && p.r.IntN(4) == 0:
		do(p.w, end, p.client(), p.r.IntN(50))
	case n < 90 && p.r.IntN(4) == 0:
		do(p.w, end, s, p.r.IntN(50), side)
	case n < 93:
		p.alters()
	case n < 94 && p.leaks:
		p.learns()
	case n < 100:
		p.forges()
	}
}

// alters lets a datagram come that is another one in one byte, mostly of its head.
func (p *play) alters() {
	b := p.w.Letter(p.late())
	if len(b) > 0 {
		b[p.r.IntN(min(len(b), p.one(40, 2000)))] ^= byte(1 + p.r.IntN(255))
	}
	toServer(p.w, p.server(), p.r.IntN(9), b)
	toClient(p.w, p.client(), b)
}

func (p *play) learns() {
	b := p.r.IntN(4)
	a := p.client()
	if b < 2 {
		a = p.server()
	}
	do(p.w, leak, a, b)
	p.learnt = true
}

// forges lets him try what he could do with secrets; without them nothing of it comes.
func (p *play) forges() {
	l := p.w.Clients()
	if len(l) == 0 {
		return
	}
	c := 1 + p.r.IntN(len(l))
	x := l[c-1]
	f := x.Talk.Facts()
	host, _ := p.w.Config(x.Server)
	switch p.r.IntN(4) {
	case 0:
		toClient(p.w, c, short(p.w, name('c', c), f.Server, 1000+p.r.IntN(1000), data(p.r.IntN(1001), p.own)))
	case 1:
		for _, n := range audit.Partners(p.w, c) {
			toServer(p.w, x.Server, c, short(p.w, name(0, n), f.Client, 1000+p.r.IntN(1000), data(p.r.IntN(1001), p.own)))
		}
	case 2:
		if f.Done || helloOf(p.w, c) == nil {
			return
		}
		beServer(p.w, c, p.one(1, 2, 3), host.Server.Secret, p.ofTicket(x))
	case 3:
		p.comes++
		h, secret := p.ticket(x, host.Server.Key)
		beClient(p.w, x.Server, 100+p.comes, h, secret, data(0, p.own))
	}
}

// ofTicket tells the secret of the ticket with which a client comes; 0 without one, seldom also with one.
func (p *play) ofTicket(x world.Client) api.Term {
	if x.Ticket == 0 || p.r.IntN(4) == 0 {
		return 0
	}
	if l := guest(p.w, x.Ticket).Talk.State().Passes; len(l) > 0 {
		return l[len(l)-1].Secret
	}
	return 0
}

// ticket tells one with which he may come, and its secret: one of a client's, or one of his own.
func (p *play) ticket(x world.Client, key api.Term) (h, secret api.Term) {
	if l := x.Talk.State().Passes; len(l) > 0 && p.r.IntN(2) == 0 {
		return l[0].Ticket, l[0].Secret
	}
	goes := ticket.Ticket{Version: 1, Time: max(0, p.w.Now()-p.r.IntN(3)), Life: 9, Secret: p.own}
	return ticket.Issue(p.w.Table(), key, goes), p.own
}

// holds tells if the theorems hold that have to.
func (p *play) holds() bool {
	for _, word := range audit.Broken(p.w) {
		if !p.learnt || word == "unique" || word == "early" {
			p.t.Errorf("P25.2: he learnt secrets: %t; broken: %s\n%v", p.learnt, word, audit.Lines(p.w))
			return false
		}
	}
	return true
}

// THE THEOREMS: where he learns no secret nothing is broken; where he does, two of them are not.
func TestP25_2Theorems(t *testing.T) {
	broke := map[string]int{}
	done, taken, resumed, early, tried, twice := 0, 0, 0, 0, 0, 0
	for seed := range 200 {
		p := newPlay(t, seed, seed%2 == 0)
		for i := range 500 {
			p.acts()
			if i%50 == 49 && !p.holds() {
				t.Fatalf("P25.2: the play %d", seed)
			}
		}
		for n, c := range p.w.Clients() {
			f := c.Talk.Facts()
			done += count(f.Done)
			resumed += count(f.Ticket != 0)
			taken += len(c.Got)
			if l := audit.Partners(p.w, n+1); f.Done && !p.learnt {
				partners(t, p.w, c, f, l)
			}
		}
		tickets := map[api.Term]int{}
		for s := 1; s <= p.w.Servers(); s++ {
			for _, x := range p.w.Peers(s) {
				f := x.Talk.Facts()
				early += count(f.Early)
				twice += count(f.Ticket != 0 && tickets[f.Ticket] == 1)
				tickets[f.Ticket]++
			}
		}
		tried += p.comes
		for _, word := range audit.Broken(p.w) {
			broke[word]++
		}
	}
	// So that they are no theorems of nothing.
	for _, word := range []string{"agree", "secret", "honest", "version"} {
		if broke[word] < 5 {
			t.Errorf("P25.2: %s is broken in %d plays", word, broke[word])
		}
	}
	if done < 500 || taken < 500 || resumed < 20 || early < 20 || twice < 20 || tried < 500 {
		t.Errorf("P25.2: %d clients are done, %d data taken, %d came with a ticket; %d sides took early data; %d tickets came twice, %d were tried", done, taken, resumed, early, twice, tried)
	}
}

// count is 1, if something is.
func count(is bool) int {
	if is {
		return 1
	}
	return 0
}

// partners holds a client's partners against those who have its Flight: P1.
func partners(t *testing.T, w *world.World, c world.Client, f client.Facts, got []int) {
	t.Helper()
	var want []int
	for i, x := range w.Peers(c.Server) {
		if x.Talk.Facts().Flight == f.Flight {
			want = append(want, i+1)
		}
	}
	if len(want) != 1 || !slices.Equal(got, want) {
		t.Errorf("P1: the partners %v, not %v", got, want)
	}
}

// R5: what is told hangs on the acts alone.
func TestR5TheSameTwice(t *testing.T) {
	for seed := range 20 {
		var lines, words [2][]string
		for i := range 2 {
			p := newPlay(t, seed, true)
			for range 300 {
				p.acts()
			}
			lines[i], words[i] = audit.Lines(p.w), audit.Broken(p.w)
		}
		if !slices.Equal(lines[0], lines[1]) || !slices.Equal(words[0], words[1]) || len(lines[0]) == 0 {
			t.Fatalf("R5: the play %d: %v, %v; %v, %v", seed, lines[0], lines[1], words[0], words[1])
		}
	}
}
