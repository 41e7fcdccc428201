package world_test

import (
	"bytes"
	"math/rand/v2"
	"testing"

	"shibboleth/api"
	"shibboleth/frame"
	"shibboleth/header"
	"shibboleth/hello"
	"shibboleth/ideal"
	"shibboleth/params"
	"shibboleth/special"
	"shibboleth/world"
)

// play is a world in which acts are done by chance, those of somebody who stands between among them.
type play struct {
	t      *testing.T
	r      *rand.Rand
	w      *world.World
	leaks  bool // may he learn secrets?
	learnt bool // has he?
	own    []api.Term
	said   [][]byte // messages that he can read, or has made
}

func newPlay(t *testing.T, seed int, leaks bool) *play {
	p := &play{t: t, r: rand.New(rand.NewPCG(24, uint64(seed))), w: world.New(), leaks: leaks}
	for range 1 + p.r.IntN(3) {
		do(p.w, serve, p.one(1, 12, 21, 312, 9), p.r.IntN(2), p.r.IntN(9), p.r.IntN(4), p.one(0, 3, 50, 1000))
	}
	for range 2 {
		p.dials()
		p.own = append(p.own, do(p.w, makes, secretKind))
	}
	return p
}

// one tells one of those numbers.
func (p *play) one(l ...int) int { return l[p.r.IntN(len(l))] }

// any tells a number from 1 to n, seldom one beside.
func (p *play) any(n int) int {
	if p.r.IntN(40) == 0 {
		return p.one(0, -1, n+1, n+70)
	}
	return 1 + p.r.IntN(max(n, 1))
}

// late tells a datagram, mostly one of the last ones.
func (p *play) late() int {
	n := p.w.Datagrams()
	if p.r.IntN(4) == 0 {
		return p.any(n)
	}
	return max(1, n-p.r.IntN(5))
}

func (p *play) server() int { return p.any(p.w.Servers()) }

func (p *play) client() int { return p.any(len(p.w.Clients())) }

func (p *play) peer(s int) int { return p.any(len(p.w.Peers(s))) }

func (p *play) dials() {
	n := len(p.w.Clients())
	do(p.w, dial, p.server(), p.one(1, 12, 21, 31, 123, 9), p.r.IntN(4), p.r.IntN(n+1), p.r.IntN(2))
}

// acts lets one thing be done.
func (p *play) acts() {
	s := p.server()
	switch n := p.r.IntN(100); {
	case n < 2:
		p.dials()
	case n < 8:
		do(p.w, send, p.client())
	case n < 14:
		do(p.w, reply, s, p.peer(s))
	case n < 34:
		do(p.w, poll)
	case n < 60:
		do(p.w, come, p.late())
	case n < 64:
		do(p.w, lead, p.late(), s, p.r.IntN(len(p.w.Clients())+2))
	case n < 72:
		do(p.w, tick, p.one(0, 0, 0, 0, 1, 2, 7))
	case n < 76:
		do(p.w, update, p.client())
	case n < 80:
		do(p.w, update, s, p.peer(s))
	case n < 81 && p.r.IntN(4) == 0:
		do(p.w, end, p.client(), p.r.IntN(50))
	case n < 82 && p.r.IntN(4) == 0:
		do(p.w, end, s, p.r.IntN(50), p.peer(s))
	case n < 85:
		p.makes()
	case n < 98:
		p.forges()
	case n < 100 && p.leaks && p.r.IntN(4) == 0:
		b := p.r.IntN(4)
		a := p.client()
		if b < 2 {
			a = s
		}
		do(p.w, leak, a, b)
		p.learnt = true
	}
}

// term tells a term, mostly one that he knows.
func (p *play) term() api.Term {
	if p.r.IntN(2) == 0 {
		return p.own[p.r.IntN(len(p.own))]
	}
	return api.Term(p.any(p.w.Table().Size()))
}

// makes lets him make a term.
func (p *play) makes() {
	x := world.Act{What: makes, A: p.r.IntN(12), B: int(p.term()), C: int(p.term()), D: int(p.term())}
	x.Text = []byte{'n', 'o', 'n', 'e'}[:p.r.IntN(5)]
	if h := p.w.Do(x); h != 0 {
		p.own = append(p.own, h)
	}
}

// sends lets bytes come to somebody.
func (p *play) sends(b []byte) {
	if p.r.IntN(2) == 0 {
		toServer(p.w, p.server(), p.r.IntN(len(p.w.Clients())+2), b)
		return
	}
	toClient(p.w, p.client(), b)
}

// forges lets him send something that he has put together.
func (p *play) forges() {
	p.listens()
	switch p.r.IntN(6) {
	case 0:
		p.sends(p.pieces())
	case 1:
		p.sends(p.altered())
	case 2:
		p.sends(special.WriteList(special.List{To: p.name(), From: p.name(), Versions: []int{1 + p.r.IntN(3), 1 + p.r.IntN(9)}}))
	case 3:
		goal := p.name()
		r := special.Retry{Version: 1 + p.r.IntN(3), To: p.name(), From: p.name(), Token: p.term()}
		r.Tag = special.Tag(p.w.Table(), goal, r)
		p.sends(special.WriteRetry(r))
	default:
		p.sends(p.initial())
	}
}

// listens lets him read what he can of a datagram.
func (p *play) listens() {
	l, _ := header.Split(p.w.Letter(p.late()))
	for _, x := range l {
		h, _, _ := ideal.Unwrap(x.Body)
		n, _ := p.w.Table().Look(h)
		if n.Kind != sealedKind || !p.w.Can(n.Parts[2]) {
			continue
		}
		row, _ := p.w.Table().Look(n.Parts[2])
		said, _ := p.w.Table().Look(row.Parts[0])
		frames, _ := frame.Read([]byte(said.Text))
		for _, f := range frames {
			if f.Kind == crypto {
				p.said = append(p.said, f.Data)
			}
		}
	}
}

// pieces tells some of the packets of two datagrams.
func (p *play) pieces() []byte {
	var all []byte
	for range 2 {
		l, _ := header.Split(p.w.Letter(p.late()))
		for _, x := range l {
			if p.r.IntN(3) > 0 {
				all = append(append(all, x.Head...), x.Body...)
			}
		}
	}
	return all
}

// altered tells a datagram that is another one in one byte, mostly of its head.
func (p *play) altered() []byte {
	b := p.w.Letter(p.late())
	if len(b) > 0 {
		b[p.r.IntN(min(len(b), p.one(40, 2000)))] ^= byte(1 + p.r.IntN(255))
	}
	return b
}

// name tells somebody's name.
func (p *play) name() []byte {
	switch p.r.IntN(4) {
	case 0:
		return name('c', p.client())
	case 1:
		return name('g', p.client())
	case 2:
		return name(0, 1+p.r.IntN(4))
	}
	if h, _, _, e := header.Read(p.w.Letter(p.late())); e == api.OK {
		return h.To
	}
	return name('x', 1)
}

// message tells a message: one that he has read, or one of his own.
func (p *play) message() []byte {
	if len(p.said) > 0 && p.r.IntN(2) == 0 {
		return p.said[p.r.IntN(len(p.said))]
	}
	tells := params.Params{Idle: 1, Data: 9, HasOwn: true, Own: p.name(), Chosen: 1 + p.r.IntN(3), Versions: []int{1 + p.r.IntN(3), 4}}
	m := hello.Msg{Kind: p.one(clientHello, serverHello), Random: p.term(), Share: p.term(), Flag: p.r.IntN(2) == 0}
	if m.Kind == serverHello {
		m.Version = 1 + p.r.IntN(3)
	} else {
		m.Params = params.Write(tells)
	}
	return hello.Write(m)
}

// initial tells a packet of the level 0.
func (p *play) initial() []byte {
	goal := p.name()
	h := header.Header{Version: 1 + p.r.IntN(3), To: goal, From: p.name()}
	if p.r.IntN(2) == 0 {
		h.To = p.name()
	}
	if p.r.IntN(3) == 0 {
		h.Token = ideal.Number(p.term())
	}
	f := frame.Frame{Kind: p.one(ping, crypto, crypto, crypto, crypto, dataKind, closeKind)}
	switch f.Kind {
	case crypto:
		f.Data = p.message()
		if len(f.Data) == 0 || len(f.Data) > 400 {
			f = frame.Frame{Kind: ping}
		}
	case dataKind:
		f.Term = p.term()
	}
	if f.Kind == dataKind && !p.w.Can(f.Term) {
		f.Term = p.own[0]
	}
	return initial(p.w, h, goal, p.r.IntN(2) == 0, p.r.IntN(9), f)
}

// holds tells if the theorems that have to hold do.
func (p *play) holds() bool {
	may := []byte("agree secret honest version")
	for _, word := range broken(p.w) {
		if !p.learnt || !bytes.Contains(may, []byte(word)) {
			p.t.Errorf("P24.2: he learnt secrets: %t; broken: %s", p.learnt, word)
			return false
		}
	}
	return true
}
