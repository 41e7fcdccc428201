package world_test

import (
	"bytes"
	"slices"
	"testing"

	"shibboleth/api"
	"shibboleth/conn"
	"shibboleth/frame"
	"shibboleth/guard"
	"shibboleth/header"
	"shibboleth/hello"
	"shibboleth/ideal"
	"shibboleth/params"
	"shibboleth/sched"
	"shibboleth/special"
	"shibboleth/stream"
	"shibboleth/term"
	"shibboleth/world"
)

// thief is a side that he who stands between plays himself: by acts of the kinds make and hand alone, and what he hears.
type thief struct {
	t        *testing.T
	w        *world.World
	x        *term.Table
	own, to  []byte
	goal     []byte // of the client's first packet
	token    []byte
	secret   api.Term
	hello    []byte // the client's
	heard    api.Term
	early    api.Term
	shaken   api.Term
	clientHs api.Term
	g        *guard.Guard
	in       [api.Levels]stream.Stream
	at       [api.Levels]int // where the next message stands
	next     int             // the number of the next packet
	got      []api.Term      // data that came to him
	takes    func(level int, m hello.Msg, raw []byte)
	sends    func(b []byte)
}

func newThief(t *testing.T, w *world.World) *thief {
	return &thief{t: t, w: w, x: w.Table(), g: guard.New(w.Table()), early: sched.Early(w.Table(), 0)}
}

// makes lets him make a term by an act.
func (x *thief) makes(l ...int) api.Term {
	h := do(x.w, makes, l...)
	if h == 0 {
		x.t.Fatalf("P24.1: he can't make %v", l)
	}
	return h
}

// dials is a client of his own, of the first server, from an address.
func (x *thief) dials(address int, own, goal []byte) {
	x.own, x.goal, x.to = own, goal, goal
	x.sends = func(b []byte) { toServer(x.w, 1, address, b) }
	x.takes = x.asGuest
	x.secret = x.makes(secretKind)
	tells := params.Params{Idle: 1, Data: 9, HasOwn: true, Own: own, Chosen: 1, Versions: []int{1}}
	m := hello.Msg{Kind: clientHello, Random: x.makes(secretKind), Share: x.makes(publicKind, int(x.secret)), Params: params.Write(tells)}
	x.hello = hello.Write(m)
	x.heard = sched.Next(x.x, sched.Begin(x.x), x.hello)
	x.begins()
}

// begins says the hello, to the goal or behind a Retry.
func (x *thief) begins() {
	x.g = guard.New(x.x)
	x.at[api.Initial] = 0
	client, server := sched.First(x.x, x.to)
	x.g.Install(api.Initial, server, client)
	x.says(api.Initial, x.hello)
}

// says sends a message, in a packet of its own.
func (x *thief) says(level int, msg []byte) {
	f := frame.Frame{Kind: crypto, At: x.at[level], Data: msg}
	x.at[level] += len(msg)
	x.writes(level, f)
}

// writes sends a packet of frames.
func (x *thief) writes(level int, l ...frame.Frame) {
	h := header.Header{Kind: level, To: x.to}
	if level != api.App {
		h.Version, h.From = 1, x.own
	}
	if level == api.Initial {
		h.Token = x.token
		l = append(l, frame.Frame{Kind: padding, Count: leastFirst})
	}
	b := sealed(x.w, x.g, h, x.next, l...)
	x.next++
	x.sends(b)
}

// reads lets him read a datagram.
func (x *thief) reads(b []byte) {
	if r, e := special.ReadRetry(b); e == api.OK && bytes.Equal(r.To, x.own) && len(x.token) == 0 {
		x.to, x.token = r.From, ideal.Number(r.Token)
		x.begins()
		return
	}
	l, _ := header.Split(b)
	for _, p := range l {
		o, e := x.g.Open(p)
		if e != api.OK {
			continue
		}
		if p.Header.Kind != api.App {
			x.to = p.Header.From
		}
		for _, f := range frames(x.w, number(p.Body[:4])) {
			x.frame(o.Level, f)
		}
	}
}

// frame does what a frame says.
func (x *thief) frame(level int, f frame.Frame) {
	switch f.Kind {
	case dataKind:
		x.got = append(x.got, f.Term)
	case crypto:
		x.in[level].Put(f.At, f.Data)
		for {
			msg, e := x.in[level].Next()
			if e != api.OK {
				return
			}
			m, _ := hello.Read(msg)
			x.takes(level, m, msg)
		}
	}
}

// asGuest takes a server's message.
func (x *thief) asGuest(level int, m hello.Msg, raw []byte) {
	if m.Kind == ticketKind {
		return
	}
	x.heard = sched.Next(x.x, x.heard, raw)
	switch m.Kind {
	case serverHello:
		x.shakes(m.Share)
		client, server := sched.ShakenTraffic(x.x, x.shaken, x.heard)
		x.clientHs = client
		x.g.Install(api.Handshake, server, client)
	case finished:
		client, server := sched.MainTraffic(x.x, sched.Main(x.x, x.shaken), x.heard)
		x.says(api.Handshake, hello.Write(hello.Msg{Kind: finished, Mac: sched.Finished(x.x, x.clientHs, x.heard)}))
		x.g.Install(api.App, server, client)
	}
}

// shakes takes the other side's share.
func (x *thief) shakes(share api.Term) {
	x.shaken = sched.Shaken(x.x, x.early, x.makes(sharedKind, int(x.secret), int(share)))
}

// serves is a server of his own, that answers the hello of a client with a secret to sign with; with a ticket's secret it takes the ticket.
func (x *thief) serves(c int, signs, ticket api.Term) {
	x.t.Helper()
	x.own, x.to, x.goal = name('t', c), name('c', c), name('g', c)
	x.sends = func(b []byte) { toClient(x.w, c, b) }
	x.takes = func(level int, m hello.Msg, raw []byte) {
		if m.Kind == clientHello && x.hello == nil {
			x.hello = raw
			x.answers(c, m, signs, ticket)
		}
	}
	client, server := sched.First(x.x, x.goal)
	x.g.Install(api.Initial, client, server)
	for n := 1; n <= x.w.Datagrams(); n++ {
		if h, _, _, e := header.Read(x.w.Letter(n)); e == api.OK && bytes.Equal(h.From, x.to) {
			x.reads(x.w.Letter(n))
		}
	}
	x.to = name('c', c)
}

// answers says a server's flight.
func (x *thief) answers(c int, m hello.Msg, signs, ticket api.Term) {
	host, _ := x.w.Config(guest(x.w, c).Server)
	x.secret = x.makes(secretKind)
	x.heard = sched.Begin(x.x)
	x.hears(x.hello)
	own := hello.Msg{Kind: serverHello, Random: x.makes(secretKind), Share: x.makes(publicKind, int(x.secret)), Version: 1, Flag: ticket != 0}
	if ticket != 0 {
		x.early = sched.Early(x.x, ticket)
	}
	x.shakes(m.Share)
	x.tells(api.Initial, own)
	client, server := sched.ShakenTraffic(x.x, x.shaken, x.heard)
	x.clientHs = client
	x.g.Install(api.Handshake, client, server)
	tells := params.Params{Idle: 1, Data: 9, HasGoal: true, Goal: x.goal, HasOwn: true, Own: x.own, Chosen: 1, Versions: host.Server.Versions}
	x.tells(api.Handshake, hello.Msg{Kind: paramsKind, Params: params.Write(tells)})
	if ticket == 0 {
		x.tells(api.Handshake, hello.Msg{Kind: nameKind, Name: host.Server.Name})
		x.tells(api.Handshake, hello.Msg{Kind: proofKind, Mac: x.x.Make(signedKind, []api.Term{signs, sched.Signed(x.x, x.heard)})})
	}
	x.tells(api.Handshake, hello.Msg{Kind: finished, Mac: sched.Finished(x.x, server, x.heard)})
	client, server = sched.MainTraffic(x.x, sched.Main(x.x, x.shaken), x.heard)
	x.g.Install(api.App, client, server)
}

func (x *thief) hears(msg []byte) { x.heard = sched.Next(x.x, x.heard, msg) }

// tells says a message of a server's; those of the level 2 stand one behind the other.
func (x *thief) tells(level int, m hello.Msg) {
	msg := hello.Write(m)
	x.hears(msg)
	x.says(level, msg)
}

// listens lets him read all that was sent from a datagram on.
func (x *thief) listens(from int) {
	for n := from; n <= x.w.Datagrams(); n++ {
		x.reads(x.w.Letter(n))
	}
}

// He may be a client of his own: what a server sends him is his.
func TestP24_2AClientOfHisOwn(t *testing.T) {
	for shown := range 2 {
		w := world.New()
		do(w, serve, 1, shown, 9, 9, 9)
		x := newThief(t, w)
		x.dials(40, name('t', 1), name('T', 1))
		for range 4 {
			was := w.Datagrams() + 1
			do(w, poll)
			x.listens(was)
			do(w, tick)
		}
		l := w.Peers(1)
		if len(l) != 1 || !l[0].Talk.State().Done {
			t.Fatalf("P24.1: addresses are shown: %d: %v", shown, l)
		}
		mine := do(w, makes, secretKind)
		x.writes(api.App, frame.Frame{Kind: dataKind, Count: 3, Term: mine})
		h := do(w, reply, 1, 1)
		was := w.Datagrams() + 1
		do(w, poll)
		x.listens(was)
		if got := side(w, 1).Got; len(got) != 1 || got[0].Term != mine || got[0].Number != 3 || got[0].Early {
			t.Errorf("P24.1: the server takes %v", got)
		}
		if !slices.Contains(x.got, h) || !w.Can(h) {
			t.Errorf("P24.1: he gets %v, not %d", x.got, h)
		}
		if b := broken(w); len(b) != 0 {
			t.Errorf("P24.2: broken: %v", b)
		}
	}
}

// He is no server that a client meant, but with that server's secret to sign with.
func TestP24_2AServerOfHisOwn(t *testing.T) {
	for _, learns := range []bool{false, true} {
		w := served(1)
		do(w, dial, 1, 1)
		do(w, poll)
		if learns {
			do(w, leak, 1, ofSigning)
		}
		c, _ := w.Config(1)
		newThief(t, w).serves(1, c.Server.Secret, 0)
		if got := guest(w, 1).Talk.Facts().Done; got != learns {
			t.Fatalf("P24.2: he learns: %t: a client is done: %t", learns, got)
		}
		h := do(w, send, 1)
		do(w, poll)
		if w.Can(h) != learns || slices.Contains(broken(w), "agree") != learns || slices.Contains(broken(w), "secret") != learns {
			t.Errorf("P24.2: he learns: %t: he can make %d: %t; broken: %v", learns, h, w.Can(h), broken(w))
		}
	}
	// With another secret he is another one.
	w := served(1)
	do(w, dial, 1, 1)
	do(w, poll)
	newThief(t, w).serves(1, do(w, makes, secretKind), 0)
	if s := guest(w, 1).Talk.State(); s.Done || s.Fail != api.ErrName {
		t.Errorf("P24.2: signed by another one: %v", s)
	}
}

// The server's secret, learnt behind a talk, tells nothing of it.
func TestP24_2StaysSecret(t *testing.T) {
	w := talking(t, 1)
	h, g := do(w, send, 1), do(w, reply, 1, 1)
	rounds(w, 2)
	for _, b := range []int{ofSigning, ofTickets, ofResumption} {
		do(w, leak, 1, b)
	}
	later := do(w, send, 1)
	rounds(w, 2)
	if w.Can(h) || w.Can(g) || w.Can(later) || len(broken(w)) != 0 {
		t.Errorf("P2: he can make %t, %t, %t; broken: %v", w.Can(h), w.Can(g), w.Can(later), broken(w))
	}
}

// With the key for tickets, or the resumption secret, he answers who comes with the ticket, and reads the early data.
func TestP24_2WhoHasTheTicket(t *testing.T) {
	for _, b := range []int{-1, ofTickets, ofResumption} {
		w := talking(t, 1)
		do(w, dial, 1, 1, 0, 1, 1)
		early := do(w, send, 2)
		do(w, poll)
		do(w, leak, 1, b)
		resume := guest(w, 1).Talk.Facts().Resume
		learns := b >= 0
		if w.Can(early) != learns || w.Can(resume) != learns {
			t.Errorf("P24.1: leak 1 %d: he can make the early data: %t, the ticket's secret: %t", b, w.Can(early), w.Can(resume))
		}
		x := newThief(t, w)
		x.serves(2, 0, resume)
		if got := guest(w, 2).Talk.Facts().Done; got != learns {
			t.Errorf("P24.2: leak 1 %d: the client is done: %t", b, got)
		}
		if l := broken(w); slices.Contains(l, "agree") != learns || slices.Contains(l, "secret") != learns {
			t.Errorf("P24.2: leak 1 %d: broken: %v", b, l)
		}
	}
}

// P3: early data are taken once, however often they come, from wherever.
func TestP24_2EarlyOnce(t *testing.T) {
	w := talking(t, 1)
	do(w, dial, 1, 1, 0, 1, 1)
	do(w, dial, 1, 1, 0, 1, 1)
	do(w, send, 2)
	do(w, send, 3)
	was := w.Datagrams()
	do(w, poll)
	for address := 1; address <= 9; address++ {
		for n := was + 1; n <= w.Datagrams(); n++ {
			do(w, lead, n, 1, address)
			toServer(w, 1, address+20, w.Letter(n))
		}
	}
	taken := 0
	for _, p := range w.Peers(1) {
		if p.Talk.Facts().Early {
			taken++
		}
		for _, x := range p.Got {
			if x.Early && !slices.Equal(p.Got, []conn.Got{{Number: 0, Term: guest(w, 2).Sent[0], Early: true}}) {
				t.Errorf("P3: %v", p.Got)
			}
		}
	}
	if taken != 1 || len(w.Peers(1)) < 30 || len(broken(w)) != 0 {
		t.Errorf("P3: %d of %d sides took early data; broken: %v", taken, len(w.Peers(1)), broken(w))
	}
}
