package listen_test

import (
	"testing"

	"shibboleth/api"
	"shibboleth/client"
	"shibboleth/conn"
	"shibboleth/frame"
	"shibboleth/guard"
	"shibboleth/header"
	"shibboleth/hello"
	"shibboleth/listen"
	"shibboleth/sched"
	"shibboleth/server"
	"shibboleth/special"
	"shibboleth/strike"
	"shibboleth/term"
	"shibboleth/token"
)

// By the document's numbers: kinds of terms, and of frames.
const (
	rowKind    = 3
	publicKind = 7
	ping       = 1
	padding    = 0
	crypto     = 6
)

const (
	least = 1000 // bytes of a datagram that is answered
	wide  = 1200
	place = 5 // an address
	hour  = 10
	life  = 3 // of a token
)

// house is a table, and what a listener and its guests are given.
type house struct {
	x      *term.Table
	public api.Term
	config listen.Config
}

// newHouse has the versions 1 and 2, and a data limit of 9 on both sides.
func newHouse(shown bool) *house {
	x := term.New()
	secret, key, mints := x.Secret(), x.Secret(), x.Secret()
	s := server.Config{Name: "host", Secret: secret, Versions: []int{1, 2}, Idle: 1, Data: 9, Key: key, Life: 50, Store: strike.New(50, 50)}
	return &house{x: x, public: x.Make(publicKind, []api.Term{secret}), config: listen.Config{Server: s, Key: mints, Life: life, Shown: shown}}
}

// listens is a listener.
func (h *house) listens(t *testing.T) *listen.Listener {
	t.Helper()
	l, e := listen.New(h.x, h.config)
	if l == nil || e != api.OK {
		t.Fatalf("P23.1: there is no listener: %d", e)
	}
	return l
}

// named tells a name of 8 bytes.
func named(first byte, n int) []byte {
	return []byte{first, 0, 0, 0, byte(n >> 24), byte(n >> 16), byte(n >> 8), byte(n)}
}

// guest tells a client's config.
func (h *house) guest(offers ...int) client.Config {
	return client.Config{Name: "host", Public: h.public, Versions: offers, Idle: 1, Data: 9}
}

// dials is the client n, that begins with the first version that it offers.
func (h *house) dials(t *testing.T, n int, offers ...int) *conn.Conn {
	t.Helper()
	c, e := conn.Dial(h.x, h.guest(offers...), offers[0], named('c', n), named('g', n))
	if e != api.OK {
		t.Fatalf("P22.1: there is no client: %d", e)
	}
	return c
}

// packet is of what a datagram's only packet is made.
type packet struct {
	kind, version     int
	goal, from, token []byte
	sealed            []byte // the goal with whose first secrets it is sealed
	size              int    // bytes of the datagram
	said              []byte // a message that is in it; none: a ping
}

// right is a packet with which a talk begins, where no address is asked for.
func right() packet {
	return packet{version: 1, goal: named('g', 1), from: named('c', 1), sealed: named('g', 1), size: wide}
}

// to is the same packet with another goal.
func (p packet) to(goal []byte) packet {
	p.goal, p.sealed = goal, goal
	return p
}

// writes tells the datagram of a packet, with a content of a ping, or of a piece of a message, and padding.
func (h *house) writes(t *testing.T, p packet) []byte {
	t.Helper()
	head := header.Header{Kind: p.kind, To: p.goal, Width: 2}
	if p.kind != api.App {
		head.Version, head.From, head.Token = p.version, p.from, p.token
	}
	f := frame.Frame{Kind: ping}
	if len(p.said) > 0 {
		f = frame.Frame{Kind: crypto, Data: p.said}
	}
	n := p.size - len(header.Write(head, 500)) - 16
	some, e := frame.Write([]frame.Frame{f})
	if e != api.OK {
		t.Fatalf("P6.1: %d", e)
	}
	l := []frame.Frame{f, {Kind: padding, Count: n - len(some)}}
	b, e := frame.Write(l)
	if e != api.OK {
		t.Fatalf("P6.1: %d", e)
	}
	content := h.x.Make(rowKind, append([]api.Term{h.x.Text(b)}, hello.Terms(l)...))
	write, _ := sched.First(h.x, p.sealed)
	g := guard.New(h.x)
	g.Install(p.kind, 0, write)
	all, e := g.Seal(head, 0, content, len(b))
	if e != api.OK || len(all) != p.size {
		t.Fatalf("P12.2: a datagram of %d bytes has %d: %d", p.size, len(all), e)
	}
	return all
}

// mints tells a token's number in its bytes.
func (h *house) mints(t *testing.T, key api.Term, x token.Token) (api.Term, []byte) {
	t.Helper()
	n := token.Mint(h.x, key, x)
	if n == 0 {
		t.Fatal("P16.1: there is no token")
	}
	return n, []byte{byte(n >> 24), byte(n >> 16), byte(n >> 8), byte(n)}
}

// retryName is the name from which a token's Retry comes.
func retryName(n api.Term) []byte {
	return []byte{'r', 0, 0, 0, byte(n >> 24), byte(n >> 16), byte(n >> 8), byte(n)}
}

// retried is a packet with the token of a Retry for that address, at that time.
func (h *house) retried(t *testing.T, address, time int) packet {
	t.Helper()
	n, b := h.mints(t, h.config.Key, token.Token{Address: address, Time: time, Name: named('g', 1)})
	p := right().to(retryName(n))
	p.token = b
	return p
}

// shown is a packet with a token for later, for that address, at that time.
func (h *house) shown(t *testing.T, address, time int) packet {
	t.Helper()
	p := right()
	_, p.token = h.mints(t, h.config.Key, token.Token{Later: true, Address: address, Time: time})
	return p
}

// carry lets all come that a client at an address and a listener have to say, and ticks.
func carry(l *listen.Listener, address int, c *conn.Conn, now int) {
	for _, b := range c.Poll(now) {
		l.Deliver(address, b, now)
	}
	for _, m := range l.Poll(now) {
		if m.Address == address {
			c.Deliver(m.Data, now)
		}
	}
	c.Tick()
	l.Tick()
}

// came tells how many bytes each talk has taken.
func came(l *listen.Listener) []int {
	var all []int
	for n := range l.Talks() {
		all = append(all, l.Talk(n+1).State().In)
	}
	return all
}

// isList, isRetry: is a datagram an answer?
func isList(b []byte) bool {
	_, e := special.ReadList(b)
	return e == api.OK
}

func isRetry(b []byte) bool {
	_, e := special.ReadRetry(b)
	return e == api.OK
}
