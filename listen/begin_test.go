package listen_test

import (
	"bytes"
	"testing"

	"shibboleth/api"
	"shibboleth/client"
	"shibboleth/listen"
	"shibboleth/params"
	"shibboleth/sched"
	"shibboleth/special"
	"shibboleth/token"
)

// hello tells the first message of a client whose names are a packet's.
func (h *house) hello(t *testing.T, p packet) []byte {
	t.Helper()
	c, step := client.New(h.x, h.guest(p.version), p.version, p.from, p.goal, nil, false)
	if c == nil {
		t.Fatalf("P20.1: %d", step.Fail)
	}
	return step.Out[0].Data
}

// goals tells what the params of a talk say of the first packet's goal, and of a Retry.
func goals(t *testing.T, l *listen.Listener, n int) (p params.Params) {
	t.Helper()
	p, e := params.Read(l.Talk(n).Facts().Mine)
	if e != api.OK || !p.HasGoal || !p.HasOwn {
		t.Fatalf("P21.2: the talk %d has the params %v, %d", n, p, e)
	}
	return p
}

func TestP23_1ATalkBegins(t *testing.T) {
	h := newHouse(false)
	l := h.listens(t)
	for n := 1; n <= 20; n++ {
		p := right().to(named('g', n))
		p.from, p.size = named('c', n), least
		p.said = h.hello(t, p)
		b := h.writes(t, p)
		now := hour + n
		l.Deliver(place+n, b, now)
		if l.Talks() != n || l.Address(n) != place+n {
			t.Fatalf("P23.1: %d talks, the last one of %d", l.Talks(), l.Address(n))
		}
		s := l.Talk(n).State()
		if s.Client || s.In != len(b) || s.Version != 1 || !bytes.Equal(s.Own, named(0, n)) || !bytes.Equal(s.Peer, p.from) || s.Fail != api.OK {
			t.Errorf("P23.1: the talk %d is %v", n, s)
		}
		said, e := token.Look(h.x, h.config.Key, s.Token)
		if e != api.OK || !said.Later || said.Address != place+n || said.Time != now || len(said.Name) != 0 {
			t.Errorf("P23.1: the talk %d has a token of %v, %d", n, said, e)
		}
		if own := goals(t, l, n); !bytes.Equal(own.Own, named(0, n)) || !bytes.Equal(own.Goal, p.goal) || own.HasRetry || own.Idle != 1 || own.Data != 9 {
			t.Errorf("P23.1: the talk %d has the params %v", n, own)
		}
	}
}

func TestP23_1Tokens(t *testing.T) {
	long := token.Token{Address: place, Time: hour, Name: bytes.Repeat([]byte{'n'}, 20)}
	type try struct {
		what string
		put  func(h *house) packet
		now  int
		may  bool
	}
	retried := func(address, time int) func(h *house) packet {
		return func(h *house) packet { return h.retried(t, address, time) }
	}
	later := func(address, time int) func(h *house) packet {
		return func(h *house) packet { return h.shown(t, address, time) }
	}
	says := func(key func(h *house) api.Term, x token.Token) func(h *house) packet {
		return func(h *house) packet {
			n, b := h.mints(t, key(h), x)
			p := right().to(retryName(n))
			p.token = b
			return p
		}
	}
	own := func(h *house) api.Term { return h.config.Key }
	for _, x := range []try{
		{"a Retry's, at its time", retried(place, hour), hour, true},
		{"a Retry's, as old as may be", retried(place, hour), hour + life, true},
		{"a Retry's, too old", retried(place, hour), hour + life + 1, false},
		{"a Retry's, ahead of its time", retried(place, hour), hour - 1, false},
		{"a Retry's, of another address", retried(place+1, hour), hour, false},
		{"one for later, at its time", later(place, hour), hour, true},
		{"one for later, as old as may be", later(place, hour), hour + life, true},
		{"one for later, too old", later(place, hour), hour + life + 1, false},
		{"one for later, ahead of its time", later(place, hour), hour - 1, false},
		{"one for later, of another address", later(place+1, hour), hour, false},
		{"a Retry's without a name", says(own, token.Token{Address: place, Time: hour}), hour, true},
		{"a Retry's with a name of 20 bytes", says(own, long), hour, true},
		{"one for later that goes to a Retry's name", says(own, token.Token{Later: true, Address: place, Time: hour}), hour, true},
		{"one by the key for tickets", says(func(h *house) api.Term { return h.config.Server.Key }, token.Token{Address: place, Time: hour}), hour, false},
		{"one by the secret", says(func(h *house) api.Term { return h.config.Server.Secret }, token.Token{Later: true, Address: place, Time: hour}), hour, false},
		{"the key itself", func(h *house) packet { p := right(); p.token = []byte{0, 0, 0, 3}; return p }, hour, false},
		{"a Retry's, to the first goal", func(h *house) packet { p := h.retried(t, place, hour); return right().with(p.token) }, hour, false},
		{"a Retry's, to another one's name", func(h *house) packet {
			p := h.retried(t, place, hour)
			return h.retried(t, place, hour+1).with(p.token)
		}, hour + 1, false},
		{"a Retry's, to nearly its name", func(h *house) packet { p := h.retried(t, place, hour); return p.to(append([]byte{'q'}, p.goal[1:]...)) }, hour, false},
	} {
		for _, shown := range []bool{false, true} {
			h := newHouse(shown)
			l := h.listens(t)
			b := h.writes(t, x.put(h))
			l.Deliver(place, b, x.now)
			if begun := l.Talks() == 1; begun != x.may || l.Talks() > 1 {
				t.Errorf("P23.1: a token, %s: %d talks", x.what, l.Talks())
			}
			if m := l.Poll(x.now); !x.may && len(m) != 0 {
				t.Errorf("P23.1: a token, %s: %v", x.what, m)
			}
		}
	}
}

// with is the same packet with another token.
func (p packet) with(token []byte) packet {
	p.token = token
	return p
}

// A talk behind a Retry tells the first goal, and the Retry's name; one with a token for later the goal alone.
func TestP23_1GoalsBehindATalksBeginning(t *testing.T) {
	for _, shown := range []bool{false, true} {
		h := newHouse(shown)
		l := h.listens(t)
		first := token.Token{Address: place, Time: hour, Name: []byte("any name that was, 20")[:20]}
		n, b := h.mints(t, h.config.Key, first)
		p := right().to(retryName(n)).with(b)
		p.said = h.hello(t, p)
		l.Deliver(place, h.writes(t, p), hour)
		_, b = h.mints(t, h.config.Key, token.Token{Later: true, Address: place, Time: hour, Name: []byte("not this")})
		p = right().to(named('g', 2)).with(b)
		p.said = h.hello(t, p)
		l.Deliver(place, h.writes(t, p), hour)
		if l.Talks() != 2 {
			t.Fatalf("P23.1: %d talks", l.Talks())
		}
		if x := goals(t, l, 1); !bytes.Equal(x.Goal, first.Name) || !x.HasRetry || !bytes.Equal(x.Retry, retryName(n)) {
			t.Errorf("P23.1: behind a Retry: %v", x)
		}
		if x := goals(t, l, 2); !bytes.Equal(x.Goal, named('g', 2)) || x.HasRetry {
			t.Errorf("P23.1: with a token for later: %v", x)
		}
		for n := 1; n < 3; n++ {
			if said, e := token.Look(h.x, h.config.Key, l.Talk(n).State().Token); e != api.OK || !said.Later || len(said.Name) != 0 {
				t.Errorf("P23.1: the talk %d has a token of %v, %d", n, said, e)
			}
		}
	}
}

// Without a packet that opens no talk begins.
func TestP23_1TheFirstPacketOpens(t *testing.T) {
	h := newHouse(false)
	l := h.listens(t)
	p := right()
	p.sealed = named('h', 1)
	l.Deliver(place, h.writes(t, p), hour)
	b := h.writes(t, right())
	for _, at := range []int{7, 16, len(b) - 1, len(b) - 1150} { // of the goal, of the other name, of the body
		other := bytes.Clone(b)
		other[at] ^= 1
		l.Deliver(place, other, hour)
	}
	l.Deliver(place, b[:len(b)-1], hour)
	// Behind a Retry they are those of its name, not of the first goal.
	p = h.retried(t, place, hour)
	p.sealed = named('g', 1)
	l.Deliver(place, h.writes(t, p), hour)
	if m := l.Poll(hour); l.Talks() != 0 || len(m) != 0 {
		t.Errorf("P23.1: %d talks, %v", l.Talks(), m)
	}
	l.Deliver(place, b, hour)
	l.Deliver(place, h.writes(t, h.retried(t, place, hour)), hour)
	if l.Talks() != 2 {
		t.Errorf("P23.1: %d talks", l.Talks())
	}
}

func TestP23_1AtMost256(t *testing.T) {
	h := newHouse(false)
	l := h.listens(t)
	for n := 1; n <= 260; n++ {
		p := right().to(named('g', n))
		p.from = named('c', n)
		l.Deliver(n, h.writes(t, p), hour)
		if want := min(n, 256); l.Talks() != want {
			t.Fatalf("P23.1: %d talks behind %d", l.Talks(), n)
		}
	}
	for n := 1; n <= 256; n++ {
		if s := l.Talk(n).State(); l.Address(n) != n || !bytes.Equal(s.Own, named(0, n)) || !bytes.Equal(s.Peer, named('c', n)) {
			t.Errorf("P23.1: the talk %d has the address %d and is %v", n, l.Address(n), s)
		}
	}
	if l.Talk(257) != nil || l.Address(257) != -1 {
		t.Error("P23.1: a talk 257")
	}
	// Those that there are go on.
	l.Deliver(256, h.writes(t, right().to(named('g', 256))), hour)
	if s := l.Talk(256).State(); s.In != 2*wide {
		t.Errorf("P23.1: %d bytes came", s.In)
	}
}

// Where the table has no room nothing begins, and no Retry is told; a list needs none.
func TestP23_1NoRoom(t *testing.T) {
	for left := range 12 {
		for _, shown := range []bool{false, true} {
			h := newHouse(shown)
			l := h.listens(t)
			p := right().to(named('h', 1))
			p.version = 3
			asks := h.writes(t, right())
			may := h.writes(t, h.shown(t, place, hour))
			other := h.writes(t, p)
			for h.x.Size() < api.MaxTerms-left {
				h.x.Secret()
			}
			l.Deliver(place, asks, hour+1)
			l.Deliver(place, may, hour+1)
			if left == 0 && l.Talks() != 0 {
				t.Errorf("P23.1: %d talks in a full table", l.Talks())
			}
			if left == 0 && len(l.Poll(hour+1)) != 0 {
				t.Error("P23.1: a Retry in a full table")
			}
			l.Poll(hour)
			l.Deliver(place, other, hour)
			if m := l.Poll(hour); len(m) != 1 || !isList(m[0].Data) {
				t.Errorf("P23.1: with room for %d terms: %v", left, m)
			}
			for n := range l.Talks() {
				if s := l.Talk(n + 1).State(); s.Token == 0 {
					t.Errorf("P23.1: with room for %d terms: a talk without a token", left)
				}
			}
		}
	}
}

// A full table has no room, also where all that a beginning needs is there already.
func TestP23_1NoRoomForAnotherOne(t *testing.T) {
	h := newHouse(false)
	l := h.listens(t)
	first, next := h.writes(t, right()), h.writes(t, right().to(named('g', 2)))
	l.Deliver(place, first, hour)
	sched.First(h.x, named('g', 2))
	for h.x.Size() < api.MaxTerms {
		h.x.Secret()
	}
	l.Deliver(place, next, hour)
	if l.Talks() != 1 {
		t.Errorf("P23.1: %d talks", l.Talks())
	}
}

// Answers come ahead of what talks have to say, each once, in order; talks in theirs, each for its address.
func TestP23_1Poll(t *testing.T) {
	h := newHouse(false)
	l := h.listens(t)
	for n := 1; n <= 3; n++ {
		p := right().to(named('g', n))
		p.said = h.hello(t, p)
		l.Deliver(10-n, h.writes(t, p), hour)
		p = right().to(named('h', n))
		p.version = 3
		l.Deliver(20-n, h.writes(t, p), hour)
	}
	var told []int
	for _, m := range l.Poll(hour) {
		told = append(told, m.Address)
		if isList(m.Data) != (m.Address > 10) {
			t.Errorf("P23.1: for %d: %x", m.Address, m.Data)
		}
		x, e := special.ReadList(m.Data)
		if e == api.OK && !bytes.Equal(x.From, named('h', 20-m.Address)) {
			t.Errorf("P23.1: for %d: %v", m.Address, x)
		}
	}
	if want := []int{19, 18, 17, 9, 8, 7}; !equal(told, want) {
		t.Errorf("P23.1: told for %v, not %v", told, want)
	}
	if m := l.Poll(hour); len(m) != 0 {
		t.Errorf("P23.1: once more: %v", m)
	}
	l.Tick() // of all talks what was not acknowledged is due again
	told = nil
	for _, m := range l.Poll(hour) {
		told = append(told, m.Address)
	}
	if want := []int{9, 8, 7}; !equal(told, want) {
		t.Errorf("P23.1: behind a Tick told for %v, not %v", told, want)
	}
}

// equal: are both lists the same, where what follows itself counts once?
func equal(got, want []int) bool {
	n := 0
	for i, x := range got {
		if i > 0 && got[i-1] == x {
			continue
		}
		if n >= len(want) || want[n] != x {
			return false
		}
		n++
	}
	return n == len(want)
}
