package listen_test

import (
	"slices"
	"testing"

	"shibboleth/api"
	"shibboleth/listen"
)

// begun is a listener with talks at these addresses, the n-th one with the goal g and n.
func begun(t *testing.T, h *house, addresses ...int) *listen.Listener {
	t.Helper()
	l := h.listens(t)
	for n, address := range addresses {
		l.Deliver(address, h.writes(t, right().to(named('g', n+1))), hour)
	}
	if l.Talks() != len(addresses) {
		t.Fatalf("P23.1: %d talks of %v", l.Talks(), addresses)
	}
	return l
}

// gives holds that a datagram of a packet is taken by a talk; 0: by none.
func (h *house) gives(t *testing.T, l *listen.Listener, address int, p packet, to int) {
	t.Helper()
	want := came(l)
	b := h.writes(t, p)
	if to > 0 {
		want[to-1] += len(b)
	}
	l.Deliver(address, b, hour)
	if got := came(l); !slices.Equal(got, want) {
		t.Errorf("P23.1: %v from %d came to %v, not %v", p, address, got, want)
	}
}

// A talk takes what goes to its own name, from wherever it comes, whatever kind of packet it is.
func TestP23_1OwnNames(t *testing.T) {
	for _, shown := range []bool{false, true} {
		h := newHouse(shown)
		l := h.listens(t)
		for n := 1; n <= 3; n++ {
			p := h.shown(t, 6+n, hour)
			l.Deliver(6+n, h.writes(t, p.to(named('g', n))), hour)
		}
		if l.Talks() != 3 {
			t.Fatalf("P23.1: %d talks", l.Talks())
		}
		for n := 1; n <= 3; n++ {
			for _, kind := range []int{api.Initial, api.Early, api.Handshake, api.App} {
				for _, address := range []int{0, 7, 8, 9} {
					for _, version := range []int{1, 3} {
						for _, size := range []int{100, wide} {
							p := packet{kind: kind, version: version, goal: named(0, n), from: named('c', 1), sealed: named('g', n), size: size}
							h.gives(t, l, address, p, n)
						}
					}
				}
			}
		}
	}
}

// Of an initial or an early packet the talk is the one from this address with that first goal.
func TestP23_1FirstGoals(t *testing.T) {
	h := newHouse(false)
	l := begun(t, h, 7, 8, 7)
	for n, address := range []int{7, 8, 7} {
		for _, kind := range []int{api.Initial, api.Early} {
			for _, version := range []int{1, 3} {
				for _, size := range []int{100, wide} {
					p := right().to(named('g', n+1))
					p.kind, p.version, p.size = kind, version, size
					h.gives(t, l, address, p, n+1)
				}
			}
		}
		for _, kind := range []int{api.Handshake, api.App} {
			p := right().to(named('g', n+1))
			p.kind = kind
			h.gives(t, l, address, p, 0)
		}
		// From another address it is no talk's.
		p := right().to(named('g', n+1))
		p.size = 100
		h.gives(t, l, 15-address, p, 0)
		p.kind = api.Early
		h.gives(t, l, 15-address, p, 0)
	}
	if m := l.Poll(hour); l.Talks() != 3 {
		t.Errorf("P23.1: %d talks, %v", l.Talks(), m)
	}
	l.Deliver(8, h.writes(t, right().to(named('g', 1))), hour)
	if l.Talks() != 4 || l.Address(4) != 8 {
		t.Errorf("P23.1: %d talks, the last one of %d", l.Talks(), l.Address(4))
	}
	h.gives(t, l, 7, right().to(named('g', 1)), 1)
	h.gives(t, l, 8, right().to(named('g', 1)), 4)
}

// Behind a Retry the first packet's goal is the Retry's name.
func TestP23_1FirstGoalBehindARetry(t *testing.T) {
	h := newHouse(true)
	l := h.listens(t)
	p := h.retried(t, place, hour)
	l.Deliver(place, h.writes(t, p), hour)
	if l.Talks() != 1 {
		t.Fatalf("P23.1: %d talks", l.Talks())
	}
	h.gives(t, l, place, p, 1)
	h.gives(t, l, place, p.with(nil), 1)
	early := p.with(nil)
	early.kind = api.Early
	h.gives(t, l, place, early, 1)
	l.Poll(hour)
	h.gives(t, l, place, right(), 0) // to what was its goal ahead of the Retry
	if m := l.Poll(hour); l.Talks() != 1 || len(m) != 1 || !isRetry(m[0].Data) {
		t.Errorf("P23.1: %d talks, %v", l.Talks(), m)
	}
}

// An own name counts ahead of a first goal, whichever of the talks began first.
func TestP23_1OwnNameAheadOfGoal(t *testing.T) {
	h := newHouse(false)
	l := h.listens(t)
	for n, goal := range [][]byte{named(0, 3), named('g', 2), named('g', 3), named(0, 5)} {
		l.Deliver(place, h.writes(t, right().to(goal)), hour)
		if l.Talks() != n+1 {
			t.Fatalf("P23.1: %d talks behind %x", l.Talks(), goal)
		}
	}
	h.gives(t, l, place, right().to(named(0, 3)), 3)
	h.gives(t, l, place, right().to(named(0, 1)), 1)
	h.gives(t, l, place, right().to(named(0, 5)), 4)
	l.Deliver(place, h.writes(t, right().to(named('g', 5))), hour)
	if l.Talks() != 5 {
		t.Fatalf("P23.1: %d talks", l.Talks())
	}
	h.gives(t, l, place, right().to(named(0, 5)), 5)
	// A goal that is nearly an own name is none.
	h.gives(t, l, place, packet{kind: api.App, goal: named(1, 1), sealed: named('g', 1), size: 100}, 0)
	h.gives(t, l, place, packet{kind: api.App, goal: named(0, 6), sealed: named('g', 1), size: 100}, 0)
	h.gives(t, l, place, packet{kind: api.App, goal: named(0, 257), sealed: named('g', 1), size: 100}, 0)
	h.gives(t, l, place, packet{kind: api.App, goal: named(0, 0), sealed: named('g', 1), size: 100}, 0)
	long := right().to(named(0, 1)[:7])
	long.kind, long.size = api.Handshake, 100
	h.gives(t, l, place, long, 0)
	h.gives(t, l, place, long.to(append(named(0, 1), 0)), 0)
}
