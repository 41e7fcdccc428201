package world

import (
	"iter"

	"shibboleth/api"
	"shibboleth/header"
	"shibboleth/ideal"
	"shibboleth/special"
)

const maxLetters = 16384

// letter is a datagram that was sent: from an address to a server, or, where the server is 0, to an address.
type letter struct {
	data            []byte
	server, address int
}

// said goes through what all have to say.
func (w *World) said() iter.Seq[letter] {
	return func(yield func(letter) bool) {
		for i, g := range w.guests {
			for _, b := range g.Talk.Poll(w.now) {
				if !yield(letter{data: b, server: g.Server, address: i + 1}) {
					return
				}
			}
		}
		for _, h := range w.hosts {
			for _, m := range h.listener.Poll(w.now) {
				if !yield(letter{data: m.Data, address: m.Address}) {
					return
				}
			}
		}
	}
}

// carries tells the terms that a datagram carries.
func carries(b []byte) []api.Term {
	if r, e := special.ReadRetry(b); e == api.OK {
		return []api.Term{r.Token, r.Tag}
	}
	var l []api.Term
	packets, _ := header.Split(b) // behind what has no form there is no packet
	for _, p := range packets {
		if h, _, is := ideal.Unwrap(p.Body); is {
			l = append(l, h)
		}
		if h, is := ideal.Numbered(p.Header.Token); is {
			l = append(l, h)
		}
	}
	return l
}

// toServer lets bytes come to a server.
func (w *World) toServer(n, address int, b []byte) {
	h := w.host(n)
	if h == nil {
		return
	}
	h.listener.Deliver(address, b, w.now)
	for k := len(h.peers) + 1; k <= h.listener.Talks(); k++ {
		h.peers = append(h.peers, &Peer{Talk: h.listener.Talk(k)})
	}
	for _, p := range h.peers {
		p.Got = append(p.Got, p.Talk.Recv()...)
	}
}

// toClient lets bytes come to a client.
func (w *World) toClient(n int, b []byte) {
	g := w.guest(n)
	if g == nil {
		return
	}
	g.Talk.Deliver(b, w.now)
	g.Got = append(g.Got, g.Talk.Recv()...)
}
