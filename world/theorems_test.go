package world_test

import (
	"slices"
	"testing"

	"shibboleth/api"
	"shibboleth/conn"
)

// THE THEOREMS: where he learns no secret nothing is broken; where he does, two of them are not.
func TestP24_2Theorems(t *testing.T) {
	done, taken, failed, resumed, early, broke := 0, 0, 0, 0, 0, 0
	for seed := range 300 {
		p := newPlay(t, seed, seed%3 == 0)
		for i := range 600 {
			p.acts()
			if i%100 == 99 && !p.holds() {
				t.Fatalf("P24.2: the play %d", seed)
			}
		}
		for _, c := range p.w.Clients() {
			f, s := c.Talk.Facts(), c.Talk.State()
			done += count(f.Done)
			resumed += count(f.Ticket != 0)
			early += count(f.Early)
			failed += count(s.Fail != api.OK)
			taken += len(c.Got)
		}
		broke += count(len(broken(p.w)) > 0)
	}
	// So that they are no theorems of nothing.
	if done < 500 || taken < 500 || failed < 100 || resumed < 20 || early < 3 || broke < 5 {
		t.Errorf("P24.2: %d clients are done, %d data taken, %d failed, %d came with a ticket, %d with early data; %d worlds are broken", done, taken, failed, resumed, early, broke)
	}
}

// count is 1, if something is.
func count(is bool) int {
	if is {
		return 1
	}
	return 0
}

// P6: where all comes at last, each client is done, with one side, and all that was sent is taken.
func TestP24_2AllComesAtLast(t *testing.T) {
	retried, resumed := 0, 0
	for seed := range 200 {
		p := newPlay(t, 5000+seed, false)
		w := p.w
		shown := p.r.IntN(2)
		do(w, serve, p.one(1, 12, 321), shown, 1000, 1000, 1<<20)
		last := w.Servers()
		from := len(w.Clients()) + 1
		for n := range p.r.IntN(500) {
			if n%40 == 0 {
				do(w, dial, last, p.one(1, 12, 31, 91), p.r.IntN(4), p.any(len(w.Clients())), p.r.IntN(2))
			}
			p.carries(last)
		}
		rounds(w, 14)
		for n := from; n <= len(w.Clients()); n++ {
			c := guest(w, n)
			var l []int
			for i, x := range w.Peers(last) {
				if f := x.Talk.Facts(); f.Flight == c.Talk.Facts().Flight && f.Flight != 0 {
					l = append(l, i)
				}
			}
			if len(l) != 1 || !c.Talk.State().Confirmed {
				t.Fatalf("P6: the play %d: the client %d is %v, with the sides %v", seed, n, c.Talk.State(), l)
			}
			x := w.Peers(last)[l[0]]
			if !slices.Equal(ordered(x.Got), c.Sent) || !slices.Equal(ordered(c.Got), x.Sent) {
				t.Errorf("P6: the play %d: the client %d sent %v, its side took %v; sent %v, took %v", seed, n, c.Sent, x.Got, x.Sent, c.Got)
			}
			retried += shown
			resumed += count(c.Talk.Facts().Ticket != 0)
		}
		if l := broken(w); len(l) > 0 {
			t.Errorf("P24.2: the play %d: broken: %v", seed, l)
		}
	}
	if retried < 100 || resumed < 20 {
		t.Errorf("P6: %d clients were asked for their addresses, %d came with a ticket", retried, resumed)
	}
}

// carries lets one thing be done with the server s, where nobody does worse than to lose, to double and to turn round.
func (p *play) carries(s int) {
	switch n := p.r.IntN(20); {
	case n < 5:
		do(p.w, poll)
	case n < 12:
		do(p.w, come, p.late())
	case n < 14:
		do(p.w, tick, p.r.IntN(2)*p.r.IntN(9))
	case n < 16:
		do(p.w, send, p.client())
	case n < 18:
		do(p.w, reply, s, p.peer(s))
	case n < 19:
		do(p.w, update, p.client())
	default:
		do(p.w, update, s, p.peer(s))
	}
}

// ordered tells what was taken by its numbers.
func ordered(l []conn.Got) []api.Term {
	l = slices.Clone(l)
	slices.SortFunc(l, func(a, b conn.Got) int { return a.Number - b.Number })
	return terms(l)
}

// The document's examples: so many rounds are enough.
func TestP24_2Rounds(t *testing.T) {
	for _, x := range []struct{ list, shown, offers, version, rounds int }{{1, 0, 1, 1, 6}, {21, 1, 12, 1, 9}, {21, 0, 2, 2, 6}, {12, 1, 129, 2, 9}} {
		w := served(9)
		do(w, serve, x.list, x.shown, 9, 9, 9)
		do(w, dial, 2, x.offers)
		rounds(w, x.rounds)
		c, l := guest(w, 1), w.Peers(2)
		if f := c.Talk.Facts(); len(l) != 1 || f.Version != x.version || !f.Done || !l[0].Talk.Facts().Done || !c.Talk.State().Confirmed {
			t.Fatalf("P6: %v: %v, %v", x, c.Talk.State(), l)
		}
		h := do(w, send, 1)
		g := do(w, reply, 2, 1)
		rounds(w, 1)
		if !slices.Equal(terms(w.Peers(2)[0].Got), []api.Term{h}) || !slices.Equal(terms(guest(w, 1).Got), []api.Term{g}) || w.Can(h) || w.Can(g) {
			t.Errorf("P6: %v: %v, %v", x, w.Peers(2), guest(w, 1))
		}
		if b := broken(w); len(b) != 0 {
			t.Errorf("P24.2: %v: broken: %v", x, b)
		}
	}
}
