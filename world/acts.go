package world

import (
	"strconv"

	"shibboleth/api"
	"shibboleth/client"
	"shibboleth/conn"
	"shibboleth/fields"
	"shibboleth/kinds"
	"shibboleth/listen"
	"shibboleth/server"
	"shibboleth/strike"
	"shibboleth/term"
)

const (
	maxServers = 8
	maxClients = 64
	maxTick    = 1000

	idle      = 1
	dataLimit = 1000

	hostMark = "s" // with which a server's name begins
	ownMark  = 'c' // a client's own name
	goalMark = 'g' // the goal of its first packet
	digits   = 7   // bytes of the number behind a client's marks
)

// acts tells how each act is done; what it tells is the term that it has made.
func acts() map[int]func(*World, Act) api.Term {
	return map[int]func(*World, Act) api.Term{
		0:  (*World).serve,
		1:  (*World).dial,
		2:  (*World).send,
		3:  (*World).reply,
		4:  (*World).poll,
		5:  (*World).come,
		6:  (*World).lead,
		7:  (*World).tick,
		8:  (*World).update,
		9:  (*World).end,
		10: (*World).leak,
		11: (*World).make,
		12: (*World).hand,
	}
}

func (w *World) serve(x Act) api.Term {
	n := len(w.hosts) + 1
	// Where it is refused its secrets would stay: so it is tried in a table of its own.
	if n > maxServers || serving(term.New(), n, x) == nil {
		return 0
	}
	if h := serving(w.table, n, x); h != nil {
		w.hosts = append(w.hosts, h)
		w.mind.Learn([]api.Term{h.public})
	}
	return 0
}

// serving is a new server; nil, if it may not be, or the table has no room.
func serving(t *term.Table, n int, x Act) *host {
	secret, key, mints := t.Secret(), t.Secret(), t.Secret()
	public := t.Make(kinds.Public, []api.Term{secret})
	c := listen.Config{
		Server: server.Config{
			Name: hostMark + strconv.Itoa(n), Secret: secret, Versions: versions(x.A), Idle: idle, Data: dataLimit,
			Key: key, Life: x.E, Store: strike.New(x.C, x.D),
		},
		Key: mints, Life: x.E, Shown: isOdd(x.B),
	}
	l, e := listen.New(t, c)
	if e != api.OK || public == 0 {
		return nil
	}
	return &host{listener: l, config: c, public: public}
}

func (w *World) dial(x Act) api.Term {
	h := w.host(x.A)
	offers := versions(x.B)
	n := len(w.guests) + 1
	if h == nil || len(offers) == 0 || n > maxClients {
		return 0
	}
	g := &guest{Client: Client{Server: x.A, Offers: offers}}
	version := offers[round(x.C, len(offers))]
	c := client.Config{Name: h.config.Server.Name, Public: h.public, Versions: offers, Idle: idle, Data: dataLimit}
	if p, is := w.pass(x.D, x.A); is {
		g.Ticket = x.D
		c.Ticket, c.Secret, c.Version = p.Ticket, p.Secret, p.Version
		c.Early = isOdd(x.E) && p.Version == version
	}
	talk, e := conn.Dial(w.table, c, version, name(ownMark, n), name(goalMark, n))
	if e == api.OK {
		g.Talk = talk
		w.guests = append(w.guests, g)
	}
	return 0
}

// pass tells the last ticket that a client got from a server; false, if there is none.
func (w *World) pass(c, s int) (client.Pass, bool) {
	g := w.guest(c)
	if g == nil || g.Server != s {
		return client.Pass{}, false
	}
	l := g.Talk.State().Passes
	if len(l) == 0 {
		return client.Pass{}, false
	}
	return l[len(l)-1], true
}

func (w *World) send(x Act) api.Term {
	g := w.guest(x.A)
	if g == nil {
		return 0
	}
	return w.give(g.Talk, &g.Sent)
}

func (w *World) reply(x Act) api.Term {
	p := w.peer(x.A, x.B)
	if p == nil {
		return 0
	}
	return w.give(p.Talk, &p.Sent)
}

// give lets a side send a new secret, and tells it; 0, if the side does not take it.
func (w *World) give(side *conn.Conn, sent *[]api.Term) api.Term {
	h := w.table.Secret()
	if side.Send(h) != api.OK {
		return 0
	}
	*sent = append(*sent, h)
	return h
}

func (w *World) poll(Act) api.Term {
	for x := range w.said() {
		if len(w.letters) < maxLetters {
			w.letters = append(w.letters, x)
			w.mind.Learn(carries(x.data))
		}
	}
	return 0
}

func (w *World) come(x Act) api.Term {
	l, is := w.letter(x.A)
	switch {
	case !is:
	case l.server == 0:
		w.toClient(l.address, l.data)
	default:
		w.toServer(l.server, l.address, l.data)
	}
	return 0
}

func (w *World) lead(x Act) api.Term {
	if l, is := w.letter(x.A); is {
		w.toServer(x.B, x.C, l.data)
	}
	return 0
}

func (w *World) tick(x Act) api.Term {
	if x.A < 0 || x.A > maxTick {
		return 0
	}
	w.now += x.A
	for _, g := range w.guests {
		g.Talk.Tick()
	}
	for _, h := range w.hosts {
		h.listener.Tick()
	}
	return 0
}

func (w *World) update(x Act) api.Term {
	w.side(x.A, x.B).Update()
	return 0
}

func (w *World) end(x Act) api.Term {
	w.side(x.A, x.C).Close(x.B)
	return 0
}

// side tells the client a, or, if b is not 0, the server a's talk b; nil, of which nothing comes, if there is none.
func (w *World) side(a, b int) *conn.Conn {
	if b == 0 {
		if g := w.guest(a); g != nil {
			return g.Talk
		}
		return nil
	}
	if p := w.peer(a, b); p != nil {
		return p.Talk
	}
	return nil
}

func (w *World) leak(x Act) api.Term {
	switch x.B {
	case 0, 1:
		if h := w.host(x.A); h != nil {
			w.leakServer(h, x.B == 0)
		}
	case 2, 3:
		if g := w.guest(x.A); g != nil && g.Talk.Facts().Done {
			w.leakClient(g, x.B == 2)
		}
	}
	return 0
}

// leakServer lets him learn a server's secret, or its key for tickets.
func (w *World) leakServer(h *host, secret bool) {
	if secret {
		h.secret = true
		w.mind.Learn([]api.Term{h.config.Server.Secret})
		return
	}
	h.key = true
	w.mind.Learn([]api.Term{h.config.Server.Key})
}

// leakClient lets him learn the main traffic's secrets of a client that is done, or its resumption secret.
func (w *World) leakClient(g *guest, traffic bool) {
	f := g.Talk.Facts()
	if traffic {
		g.traffic = true
		w.mind.Learn([]api.Term{f.Client, f.Server})
		return
	}
	g.resume = true
	w.mind.Learn([]api.Term{f.Resume})
}

func (w *World) make(x Act) api.Term {
	switch x.A {
	case kinds.Text:
		return w.table.Text(x.Text)
	case kinds.Secret:
		h := w.table.Secret()
		w.mind.Learn([]api.Term{h})
		return h
	}
	parts := needed(x)
	for _, h := range parts {
		if !w.mind.Can(h) {
			return 0
		}
	}
	return w.table.Make(x.A, parts)
}

// needed tells the terms of which one is to be made.
func needed(x Act) []api.Term {
	l := []api.Term{api.Term(x.B), api.Term(x.C), api.Term(x.D)}
	switch x.A {
	case kinds.Hash, kinds.Public:
		return l[:1]
	case kinds.Mac, kinds.Shared, kinds.Signed:
		return l[:2]
	case kinds.Row: // it needs none: it has those that are given
		for n, h := range l {
			if h == 0 {
				return l[:n]
			}
		}
	}
	return l
}

func (w *World) hand(x Act) api.Term {
	for _, h := range carries(x.Data) {
		if !w.mind.Can(h) {
			return 0
		}
	}
	if x.B == 0 {
		w.toServer(x.A, x.C, x.Data)
	} else {
		w.toClient(x.A, x.Data)
	}
	return 0
}

// versions tells the list of a number: its figures, from the last one on, each once, without 0.
func versions(n int) []int {
	var l []int
	seen := [10]bool{0: true}
	for ; n > 0; n /= 10 {
		if figure := n % 10; !seen[figure] {
			seen[figure] = true
			l = append(l, figure)
		}
	}
	return l
}

// round tells where one is that is counted round a list of so many.
func round(n, many int) int {
	return (n%many + many) % many
}

func isOdd(n int) bool {
	return n%2 != 0
}

// name tells a client's name by its mark.
func name(mark byte, n int) []byte {
	return fields.Append([]byte{mark}, n, digits)
}
