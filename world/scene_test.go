package world_test

import (
	"testing"

	"shibboleth/api"
	"shibboleth/conn"
	"shibboleth/frame"
	"shibboleth/guard"
	"shibboleth/header"
	"shibboleth/hello"
	"shibboleth/sched"
	"shibboleth/special"
	"shibboleth/world"
)

// The acts, by the document's numbers.
const (
	serve = iota
	dial
	send
	reply
	poll
	come
	lead
	tick
	update
	end
	leak
	makes
	hand
)

// What he learns, by the number B of a leak.
const (
	ofSigning = iota
	ofTickets
	ofTraffic
	ofResumption
)

// The kinds of terms, by the document's numbers.
const (
	textKind = iota + 1
	secretKind
	rowKind
	hashKind
	macKind
	derivedKind
	publicKind
	sharedKind
	signedKind
	sealedKind
)

// The kinds of frames, and of messages, by the document's numbers.
const (
	padding     = 0
	ping        = 1
	crypto      = 6
	dataKind    = 8
	closeKind   = 28
	clientHello = 1
	serverHello = 2
	ticketKind  = 4
	paramsKind  = 8
	nameKind    = 11
	proofKind   = 15
	finished    = 20
)

const leastFirst = 1000 // bytes of a client's first datagram

// do does an act of numbers.
func do(w *world.World, what int, l ...int) api.Term {
	x := world.Act{What: what}
	for i, at := range []*int{&x.A, &x.B, &x.C, &x.D, &x.E} {
		if i < len(l) {
			*at = l[i]
		}
	}
	return w.Do(x)
}

// text is the term of a text.
func text(w *world.World, s string) api.Term {
	return w.Do(world.Act{What: makes, A: textKind, Text: []byte(s)})
}

// toServer lets bytes come to a server by hand.
func toServer(w *world.World, s, address int, b []byte) {
	w.Do(world.Act{What: hand, A: s, C: address, Data: b})
}

// toClient lets bytes come to a client by hand.
func toClient(w *world.World, c int, b []byte) {
	w.Do(world.Act{What: hand, A: c, B: 1, Data: b})
}

// rounds let all that is new come.
func rounds(w *world.World, many int) {
	for range many {
		was := w.Datagrams()
		do(w, poll)
		for n := was + 1; n <= w.Datagrams(); n++ {
			do(w, come, n)
		}
		do(w, tick)
	}
}

// served is a world with a server of the versions of a list, without a Retry.
func served(list int) *world.World {
	w := world.New()
	do(w, serve, list, 0, 100, 100, 100)
	return w
}

// talking is a world with a server of the version 1, and so many clients that are done, each with its talk.
func talking(t *testing.T, many int) *world.World {
	t.Helper()
	w := served(1)
	for range many {
		do(w, dial, 1, 1)
		rounds(w, 6)
	}
	for n := range many {
		c, p := guest(w, n+1).Talk.State(), side(w, n+1).Talk.State()
		if !c.Done || !c.Confirmed || len(c.Passes) != 1 || !p.Done {
			t.Fatalf("P24.1: the client %d is not done: %v, %v", n+1, c, p)
		}
	}
	return w
}

// guest tells the n-th client.
func guest(w *world.World, n int) world.Client { return w.Clients()[n-1] }

// side tells the n-th side of the first server.
func side(w *world.World, n int) world.Peer { return w.Peers(1)[n-1] }

// name tells a name of a mark, and a number in seven bytes.
func name(mark byte, n int) []byte {
	return []byte{mark, 0, 0, 0, byte(n >> 24), byte(n >> 16), byte(n >> 8), byte(n)}
}

// first tells the header of a datagram's first packet.
func first(t *testing.T, b []byte) header.Header {
	t.Helper()
	h, _, _, e := header.Read(b)
	if e != api.OK {
		t.Fatalf("P24.1: a datagram %x has no form", b)
	}
	return h
}

// content tells the content of frames, and the bytes of its text.
func content(w *world.World, frames ...frame.Frame) (api.Term, int) {
	b, _ := frame.Write(frames)
	return w.Table().Make(rowKind, append([]api.Term{w.Table().Text(b)}, hello.Terms(frames)...)), len(b)
}

// frames tells those of a sealed term, whoever can open it.
func frames(w *world.World, h api.Term) []frame.Frame {
	n, _ := w.Table().Look(h)
	if n.Kind != sealedKind {
		return nil
	}
	row, _ := w.Table().Look(n.Parts[2])
	said, _ := w.Table().Look(row.Parts[0])
	l, _ := frame.Read([]byte(said.Text))
	return l
}

// sealed is a packet of frames; none, if it may not be.
func sealed(w *world.World, g *guard.Guard, h header.Header, number int, frames ...frame.Frame) []byte {
	h.Width = 4
	c, n := content(w, frames...)
	b, _ := g.Seal(h, number, c, n)
	return b
}

// under is a guard that writes with a secret at a level.
func under(w *world.World, level int, write api.Term) *guard.Guard {
	g := guard.New(w.Table())
	g.Install(level, 0, write)
	return g
}

// initial is a packet of the level 0 of the talk of that first goal, of its server's side or of its client's, filled up to 1000 bytes. Everybody can make it.
func initial(w *world.World, h header.Header, goal []byte, ofServer bool, number int, frames ...frame.Frame) []byte {
	write, other := sched.First(w.Table(), goal)
	if ofServer {
		write = other
	}
	b := sealed(w, under(w, api.Initial, write), h, number, frames...)
	return filled(w, under(w, api.Initial, write), h, number, len(b), frames...)
}

// filled is a packet of frames with as much padding as lets it have 1000 bytes, if it has so many without.
func filled(w *world.World, g *guard.Guard, h header.Header, number, has int, l ...frame.Frame) []byte {
	if missing := leastFirst - has; missing > 0 && has > 0 {
		l = append(l, frame.Frame{Kind: padding, Count: missing})
	}
	return sealed(w, g, h, number, l...)
}

// carried tells the terms that a datagram carries, by the document's words.
func carried(b []byte) []api.Term {
	if r, e := special.ReadRetry(b); e == api.OK {
		return []api.Term{r.Token, r.Tag}
	}
	var l []api.Term
	packets, _ := header.Split(b)
	for _, p := range packets {
		l = append(l, number(p.Body[:4]))
		if len(p.Header.Token) == 4 {
			l = append(l, number(p.Header.Token))
		}
	}
	return l
}

// number tells the number of four bytes.
func number(b []byte) api.Term {
	return api.Term(int(b[0])<<24 | int(b[1])<<16 | int(b[2])<<8 | int(b[3]))
}

// terms tells those that were taken.
func terms(l []conn.Got) []api.Term {
	var all []api.Term
	for _, x := range l {
		all = append(all, x.Term)
	}
	return all
}
