package listen_test

import (
	"bytes"
	"strings"
	"testing"

	"shibboleth/api"
	"shibboleth/header"
	"shibboleth/listen"
	"shibboleth/special"
	"shibboleth/token"
)

func TestP23_1NewRefuses(t *testing.T) {
	for what, put := range map[string]func(h *house){
		"no table":                           func(h *house) { h.x = nil },
		"no name":                            func(h *house) { h.config.Server.Name = "" },
		"51 bytes of a name":                 func(h *house) { h.config.Server.Name = strings.Repeat("n", 51) },
		"no secret":                          func(h *house) { h.config.Server.Secret = h.public },
		"no key for tickets":                 func(h *house) { h.config.Server.Key = 0 },
		"a key for tickets that is no term":  func(h *house) { h.config.Server.Key = 5 },
		"no versions":                        func(h *house) { h.config.Server.Versions = nil },
		"a version 0":                        func(h *house) { h.config.Server.Versions = []int{1, 0} },
		"a version twice":                    func(h *house) { h.config.Server.Versions = []int{1, 1} },
		"17 versions":                        func(h *house) { h.config.Server.Versions = versions(17) },
		"a data limit below 0":               func(h *house) { h.config.Server.Data = -1 },
		"an idle time below 0":               func(h *house) { h.config.Server.Idle = -1 },
		"a lifetime of tickets below 0":      func(h *house) { h.config.Server.Life = -1 },
		"too great a lifetime of tickets":    func(h *house) { h.config.Server.Life = 1 << 62 },
		"no key for tokens":                  func(h *house) { h.config.Key = 0 },
		"a key for tokens below 0":           func(h *house) { h.config.Key = -1 },
		"a key for tokens that is no term":   func(h *house) { h.config.Key = 5 },
		"a lifetime of tokens below 0":       func(h *house) { h.config.Life = -1 },
		"too great a lifetime of tokens":     func(h *house) { h.config.Life = 1 << 62 },
		"a lifetime that is beyond all else": func(h *house) { h.config.Life = 1<<63 - 1 },
	} {
		h := newHouse(false)
		put(h)
		if l, e := listen.New(h.x, h.config); l != nil || e != api.ErrArg {
			t.Errorf("P23.1: %s: %v, %d", what, l, e)
		}
	}
	for what, put := range map[string]func(h *house){
		"nothing else":                func(h *house) {},
		"no store":                    func(h *house) { h.config.Server.Store = nil },
		"50 bytes of a name":          func(h *house) { h.config.Server.Name = strings.Repeat("n", 50) },
		"16 versions":                 func(h *house) { h.config.Server.Versions = versions(16) },
		"the greatest version":        func(h *house) { h.config.Server.Versions = []int{1<<32 - 1} },
		"a key that is a public term": func(h *house) { h.config.Key = h.public },
		"a lifetime 0":                func(h *house) { h.config.Life = 0 },
		"the greatest lifetime":       func(h *house) { h.config.Life = 1<<62 - 1 },
	} {
		h := newHouse(true)
		put(h)
		l, e := listen.New(h.x, h.config)
		if l == nil || e != api.OK {
			t.Errorf("P23.1: %s: %d", what, e)
			continue
		}
		if l.Talks() != 0 || len(l.Poll(hour)) != 0 {
			t.Errorf("P23.1: %s: a new listener has %d talks", what, l.Talks())
		}
	}
}

// versions tells so many different ones.
func versions(many int) []int {
	var l []int
	for n := range many {
		l = append(l, n+1)
	}
	return l
}

func TestP23_1OfNil(t *testing.T) {
	var l *listen.Listener
	l.Deliver(place, newHouse(false).writes(t, right()), hour)
	l.Tick()
	if len(l.Poll(hour)) != 0 || l.Talks() != 0 {
		t.Error("P23.1: of nil")
	}
	for n := -1; n < 3; n++ {
		if l.Talk(n) != nil || l.Address(n) != -1 {
			t.Errorf("P23.1: of nil, %d", n)
		}
	}
}

// What comes from nowhere, or ahead of the time 0, or has no form, is nothing.
func TestP23_1Nothing(t *testing.T) {
	for _, shown := range []bool{false, true} {
		h := newHouse(shown)
		l := h.listens(t)
		b := h.writes(t, right())
		other := right()
		other.version = 7
		asks := h.writes(t, other)
		for _, address := range []int{-1, -1 << 62, -1 << 63, 1 << 62, 1<<63 - 1} {
			l.Deliver(address, b, hour)
			l.Deliver(address, asks, hour)
		}
		for _, now := range []int{-1, -1 << 63} {
			l.Deliver(place, b, now)
			l.Deliver(place, asks, now)
		}
		none := append([]byte{0x80}, make([]byte, 1199)...)
		list := special.WriteList(special.List{To: named('g', 1), From: named('c', 1), Versions: []int{1}})
		retry := special.WriteRetry(special.Retry{Version: 1, To: named('g', 1), From: named('c', 1), Token: 1, Tag: 1})
		short := h.writes(t, packet{kind: api.App, goal: named('g', 1), size: wide})
		for _, x := range [][]byte{nil, {}, {0}, {0xc0}, none, make([]byte, wide), list, append(list, none...), retry, append(retry, none...), b[:3], short} {
			l.Deliver(place, x, hour)
		}
		if m := l.Poll(hour); len(m) != 0 || l.Talks() != 0 {
			t.Errorf("P23.1: addresses shown %t: %d answers, %d talks", shown, len(m), l.Talks())
		}
	}
}

// The least and the greatest address are some, and so is the time 0.
func TestP23_1Addresses(t *testing.T) {
	h := newHouse(false)
	l := h.listens(t)
	all := []int{0, 1, 63, 64, 1 << 30, 1<<62 - 1}
	for i, address := range all {
		l.Deliver(address, h.writes(t, right()), 0)
		if l.Talks() != i+1 || l.Talk(i+1) == nil {
			t.Fatalf("P23.1: %d talks behind one from %d", l.Talks(), address)
		}
	}
	for i, address := range all {
		if l.Address(i+1) != address {
			t.Errorf("P23.1: the talk %d has the address %d", i+1, l.Address(i+1))
		}
	}
	for _, n := range []int{-1 << 63, -1, 0, len(all) + 1, 256, 1<<63 - 1} {
		if l.Talk(n) != nil || l.Address(n) != -1 {
			t.Errorf("P23.1: a talk %d: %v, %d", n, l.Talk(n), l.Address(n))
		}
	}
}

// A list goes to who used another version, in an initial packet of a datagram that is not short.
func TestP23_1List(t *testing.T) {
	for _, shown := range []bool{false, true} {
		for _, has := range [][]int{{1, 2}, {2, 1}, {1<<32 - 1}, versions(16)} {
			h := newHouse(shown)
			h.config.Server.Versions = has
			l := h.listens(t)
			for _, n := range []int{0, 1, 7, 8, 9, 20} {
				p := right().to(bytes.Repeat([]byte{'g'}, 20-n))
				p.from, p.version, p.size = bytes.Repeat([]byte{'c'}, n), 17, least
				l.Deliver(place, h.writes(t, p), hour)
				want := special.WriteList(special.List{To: p.from, From: p.goal, Versions: has})
				m := l.Poll(hour)
				if len(m) != 1 || m[0].Address != place || !bytes.Equal(m[0].Data, want) || len(want) == 0 {
					t.Errorf("P23.1: the versions %v, a name of %d bytes: %v, not %x", has, n, m, want)
				}
			}
			if m := l.Poll(hour); len(m) != 0 || l.Talks() != 0 {
				t.Errorf("P23.1: the versions %v: %v, %d talks", has, m, l.Talks())
			}
		}
	}
}

func TestP23_1NoList(t *testing.T) {
	for _, shown := range []bool{false, true} {
		for what, put := range map[string]func(p *packet){
			"a datagram of 999 bytes": func(p *packet) { p.size = least - 1 },
			"an early packet":         func(p *packet) { p.kind = api.Early },
			"one of the level 2":      func(p *packet) { p.kind = api.Handshake },
		} {
			h := newHouse(shown)
			l := h.listens(t)
			p := right()
			p.version = 3
			put(&p)
			l.Deliver(place, h.writes(t, p), hour)
			if m := l.Poll(hour); len(m) != 0 || l.Talks() != 0 {
				t.Errorf("P23.1: %s: %v, %d talks", what, m, l.Talks())
			}
		}
	}
	// What is of one of its versions is not answered with a list.
	h := newHouse(false)
	l := h.listens(t)
	for i, v := range []int{1, 2} {
		p := right().to(named('g', i))
		p.version = v
		l.Deliver(place, h.writes(t, p), hour)
	}
	for _, m := range l.Poll(hour) {
		if isList(m.Data) || isRetry(m.Data) {
			t.Errorf("P23.1: %x", m.Data)
		}
	}
	if l.Talks() != 2 || l.Talk(1).State().Version != 1 || l.Talk(2).State().Version != 2 {
		t.Errorf("P23.1: %d talks", l.Talks())
	}
}

func TestP23_1Retry(t *testing.T) {
	h := newHouse(true)
	l := h.listens(t)
	for i, bytesOfToken := range [][]byte{nil, {1}, {0, 0, 1}, {0, 0, 0, 0}, {0, 1, 0, 1}, {255, 255, 255, 255}, {0, 0, 0, 0, 1}, make([]byte, 64)} {
		p := right().to(named('h', i))
		p.from, p.token, p.size, p.version = named('d', i), bytesOfToken, least+i, 1+i%2
		l.Deliver(place+i, h.writes(t, p), hour+i)
		m := l.Poll(hour)
		if len(m) != 1 || m[0].Address != place+i {
			t.Fatalf("P23.1: the token %x: %v", bytesOfToken, m)
		}
		r, e := special.ReadRetry(m[0].Data)
		if e != api.OK || r.Version != p.version || !bytes.Equal(r.To, p.from) || !bytes.Equal(r.From, retryName(r.Token)) || !special.Tagged(h.x, p.goal, r) {
			t.Errorf("P23.1: the token %x: the Retry %v, %d", bytesOfToken, r, e)
		}
		said, e := token.Look(h.x, h.config.Key, r.Token)
		if e != api.OK || said.Later || said.Address != place+i || said.Time != hour+i || !bytes.Equal(said.Name, p.goal) {
			t.Errorf("P23.1: the token %x: the Retry's says %v, %d", bytesOfToken, said, e)
		}
	}
	if l.Talks() != 0 || len(l.Poll(hour)) != 0 {
		t.Errorf("P23.2: %d talks", l.Talks())
	}
}

// What may not begin is asked for no address, and lets no talk begin where none is asked for.
func TestP23_1MayNotBegin(t *testing.T) {
	for what, put := range map[string]func(p *packet){
		"a datagram of 999 bytes": func(p *packet) { p.size = least - 1 },
		"an early packet":         func(p *packet) { p.kind, p.token = api.Early, nil },
		"one of the level 2":      func(p *packet) { p.kind, p.token = api.Handshake, nil },
		"a goal of 7 bytes":       func(p *packet) { *p = p.to(p.goal[:7]) },
		"a goal of 9 bytes":       func(p *packet) { *p = p.to(append(p.goal, 1)) },
		"a goal of no bytes":      func(p *packet) { *p = p.to(nil) },
		"a goal of 20 bytes":      func(p *packet) { *p = p.to(make([]byte, 20)) },
		"a name of 7 bytes":       func(p *packet) { p.from = p.from[:7] },
		"a name of 9 bytes":       func(p *packet) { p.from = append(p.from, 1) },
		"a name of no bytes":      func(p *packet) { p.from = nil },
		"a name of 20 bytes":      func(p *packet) { p.from = make([]byte, 20) },
	} {
		for _, shown := range []bool{false, true} {
			h := newHouse(shown)
			l := h.listens(t)
			for _, p := range []packet{right(), h.shown(t, place, hour)} {
				put(&p)
				l.Deliver(place, h.writes(t, p), hour)
				if m := l.Poll(hour); len(m) != 0 || l.Talks() != 0 {
					t.Errorf("P23.1: %s: %v, %d talks", what, m, l.Talks())
				}
			}
		}
	}
}

// The names and the token of a packet are looked at as its header has them.
func TestP23_1TheFirstPacketCounts(t *testing.T) {
	h := newHouse(false)
	l := h.listens(t)
	p, behind := right(), right()
	p.size, behind.size, behind.version = 700, 400, 9
	all := append(h.writes(t, p), h.writes(t, behind)...)
	l.Deliver(place, all, hour) // neither of both has 1000 bytes alone
	if l.Talks() != 1 || l.Talk(1).State().In != len(all) {
		t.Errorf("P23.1: %d talks", l.Talks())
	}
	l.Poll(hour)
	p, behind = p.to(named('h', 1)), behind.to(named('h', 1))
	l.Deliver(place, append(h.writes(t, behind), h.writes(t, p)...), hour)
	if m := l.Poll(hour); l.Talks() != 1 || len(m) != 1 || !isList(m[0].Data) {
		t.Errorf("P23.1: %d talks, %v", l.Talks(), m)
	}
	if x, e := header.Split(all); len(x) != 2 || e != api.OK {
		t.Errorf("P5.2: %d packets, %d", len(x), e)
	}
}
