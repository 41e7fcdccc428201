package server_test

import (
	"fmt"
	"math/rand/v2"
	"reflect"
	"testing"

	"shibboleth/api"
	"shibboleth/client"
	"shibboleth/server"
	"shibboleth/strike"
	"shibboleth/term"
)

// house is a server and its clients, of one table.
type house struct {
	t      *testing.T
	r      *rand.Rand
	x      *term.Table
	c      server.Config
	now    int
	passes []client.Pass
	used   map[api.Term]int // how many talks took early data with each ticket
}

func newHouse(t *testing.T, r *rand.Rand) *house {
	x := term.New()
	c := server.Config{Name: "host", Secret: x.Secret(), Versions: [][]int{{1, 2, 3}, {3, 1}, {2}}[r.IntN(3)], Idle: r.IntN(9), Data: r.IntN(9), Key: x.Secret(), Life: 20}
	if r.IntN(4) > 0 {
		c.Store = strike.New(r.IntN(40), 1+r.IntN(5))
	}
	return &house{t: t, r: r, x: x, c: c, now: 5, used: map[api.Term]int{}}
}

// pair is a client and the talk of a server that answers it; the names and the version of its packets.
type pair struct {
	c         *client.Client
	s         *server.Server
	own, peer []byte
	begun     int
	config    client.Config
	first     client.Step
}

// begin is a client, and a server's talk of the same goal.
func (h *house) begin() pair {
	p := pair{own: []byte{1, byte(h.r.IntN(3))}, peer: []byte{2, byte(h.r.IntN(3))}}
	offers := [][]int{{1, 2, 3}, {3, 2}, {9, 2, 3}}[h.r.IntN(3)]
	p.begun = offers[h.r.IntN(len(offers))]
	p.config = client.Config{Name: "host", Public: h.x.Make(public, []api.Term{h.c.Secret}), Versions: offers, Idle: h.r.IntN(5), Data: h.r.IntN(5)}
	if len(h.passes) > 0 && h.r.IntN(3) > 0 {
		x := h.passes[h.r.IntN(len(h.passes))]
		p.config.Ticket, p.config.Secret, p.config.Version = x.Ticket, x.Secret, x.Version
		p.config.Early = x.Version == p.begun && h.r.IntN(4) > 0
	}
	goal, retry, again := []byte{3, byte(h.r.IntN(3))}, []byte{4}, h.r.IntN(2) == 0
	p.c, p.first = client.New(h.x, p.config, p.begun, p.own, goal, retry, again)
	s, e := server.New(h.x, h.c, p.peer, goal, retry, again)
	if p.c == nil || e != api.OK {
		h.t.Fatalf("P21.3: %v, %d", p.first, e)
	}
	p.s = s
	return p
}

// whole lets all messages come, whole and in order.
func (h *house) whole(p pair) {
	h.t.Helper()
	up := []client.Step{p.first}
	for len(up) > 0 {
		step := up[0]
		up = up[1:]
		if step.Fail != api.OK {
			h.t.Errorf("P21.3: a client fails with %d", step.Fail)
		}
		h.passes = append(h.passes, step.Passes...)
		for _, o := range step.Out {
			answer := p.s.Handle(o.Level, o.Data, p.own, p.begun, h.now)
			if answer.Fail != api.OK {
				h.t.Errorf("P21.3: a server fails with %d", answer.Fail)
			}
			for _, o := range answer.Out {
				up = append(up, p.c.Handle(o.Level, o.Data, p.peer))
			}
		}
	}
}

// mirrored are a side's facts, as its other side has them.
func mirrored(f client.Facts) client.Facts {
	f.Peer = ""
	f.Mine, f.Theirs = f.Theirs, f.Mine
	return f
}

func TestP21_3WholeAndInOrder(t *testing.T) {
	resumed, early, refused := 0, 0, 0
	for seed := range 40 {
		h := newHouse(t, rand.New(rand.NewPCG(30, uint64(seed))))
		for range 12 {
			h.now += h.r.IntN(8)
			p := h.begin()
			if _, is := pick(h.c.Versions, p.config.Versions); !is {
				continue
			}
			h.whole(p)
			f, g := p.c.Facts(), p.s.Facts()
			if !f.Done || !g.Done || f.Peer != "host" || !reflect.DeepEqual(mirrored(f), g) {
				t.Errorf("P21.3: a client has %v, a server %v", f, g)
			}
			if v, _ := pick(h.c.Versions, p.config.Versions); f.Version != v {
				t.Errorf("P21.3: the version %d, not %d", f.Version, v)
			}
			if f.Ticket != 0 {
				resumed++
			}
			if f.Early {
				early++
				if h.used[f.Ticket]++; h.used[f.Ticket] > 1 {
					t.Errorf("P21.3: early data with the ticket %d in %d talks", f.Ticket, h.used[f.Ticket])
				}
			} else if p.config.Early {
				refused++
			}
		}
	}
	if resumed < 50 || early < 20 || refused < 20 {
		t.Errorf("P21.3: %d talks with tickets, %d with early data, %d where they are refused", resumed, early, refused)
	}
}

// pick tells the first version of a server that a client has, too.
func pick(server, client []int) (int, bool) {
	for _, v := range server {
		for _, o := range client {
			if v == o {
				return v, true
			}
		}
	}
	return 0, false
}

// letter is a message on its way up or down, at a level.
type letter struct {
	client.Out
	up bool
}

// Whatever comes to whom: a talk that has a client's facts has them with no other client, and no other talk of the server has them.
func TestP21_3WithNoOtherOne(t *testing.T) {
	met, failed := 0, 0
	for seed := range 60 {
		h := newHouse(t, rand.New(rand.NewPCG(31, uint64(seed))))
		h.c.Versions = []int{2}
		var pairs []pair
		said := make([][]letter, 6)
		for i := range said {
			p := h.begin()
			p.own, p.peer = p.own[:1:1], p.peer[:1:1]
			goal := []byte{3}
			p.c, p.first = client.New(h.x, p.config, p.begun, p.own, goal, nil, false)
			p.s, _ = server.New(h.x, h.c, p.peer, goal, nil, false)
			pairs = append(pairs, p)
			said[i] = post(nil, p.first, true)
		}
		for range 150 {
			i := h.r.IntN(len(pairs))
			from := i
			if h.r.IntN(20) == 0 {
				from = h.r.IntN(len(pairs)) // another pair's message
			}
			if len(said[from]) == 0 {
				continue
			}
			m := said[from][0]
			if from == i && h.r.IntN(10) > 0 {
				said[from] = said[from][1:]
			}
			if m.up {
				said[i] = post(said[i], pairs[i].s.Handle(m.Level, m.Data, pairs[i].own, pairs[from].begun, h.now), false)
			} else {
				said[i] = post(said[i], pairs[i].c.Handle(m.Level, m.Data, pairs[i].peer), true)
			}
		}
		m, f := h.alone(pairs)
		met, failed = met+m, failed+f
	}
	if met < 40 || failed < 40 {
		t.Errorf("P21.3: %d pairs are done, %d are not", met, failed)
	}
}

// post puts a step's messages behind others.
func post(l []letter, s client.Step, up bool) []letter {
	for _, o := range s.Out {
		l = append(l, letter{o, up})
	}
	return l
}

// alone holds that sides that have the same facts are one client and one talk; it tells how many did meet, and how many did not.
func (h *house) alone(pairs []pair) (met, not int) {
	h.t.Helper()
	for i, p := range pairs {
		g := p.s.Facts()
		clients := 0
		for _, q := range pairs {
			if f := q.c.Facts(); g.Done && f.Done && reflect.DeepEqual(mirrored(f), g) {
				clients++
			}
		}
		if clients > 1 {
			h.t.Errorf("P21.3: the talk %d has the facts of %d clients", i, clients)
		}
		if g.Done && clients != 1 {
			h.t.Errorf("P21.3: the talk %d is done, and has the facts of %d clients", i, clients)
		}
		for j, q := range pairs[:i] {
			if o := q.s.Facts(); g.Flight != 0 && (o.Flight == g.Flight || o.Client == g.Client || o.Server == g.Server || g.Resume != 0 && o.Resume == g.Resume) {
				h.t.Errorf("P21.3: the talks %d and %d have secrets in common: %s", i, j, fmt.Sprint(g, o))
			}
		}
		met += clients
		not += 1 - clients
	}
	return met, not
}
