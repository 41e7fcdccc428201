package world_test

import (
	"bytes"
	"slices"

	"shibboleth/api"
	"shibboleth/choose"
	"shibboleth/client"
	"shibboleth/conn"
	"shibboleth/world"
)

// broken tells which of the theorems (chapter 25) do not hold of a world.
func broken(w *world.World) []string {
	var l []string
	for _, theorem := range []struct {
		word  string
		fails func(w *world.World) bool
	}{
		{"agree", disagree},
		{"unique", alike},
		{"secret", told},
		{"honest", forged},
		{"early", twiceEarly},
		{"version", lowered},
	} {
		if theorem.fails(w) {
			l = append(l, theorem.word)
		}
	}
	return l
}

// pair is a client that is done, with its partners.
type pair struct {
	world.Client
	facts    client.Facts
	partners []world.Peer
}

// pairs tells the clients that are done.
func pairs(w *world.World) []pair {
	var l []pair
	for _, c := range w.Clients() {
		f := c.Talk.Facts()
		if !f.Done {
			continue
		}
		x := pair{Client: c, facts: f}
		for _, p := range w.Peers(c.Server) {
			if g := p.Talk.Facts(); g.Flight != 0 && (g.Client == f.Client || g.Server == f.Server) {
				x.partners = append(x.partners, p)
			}
		}
		l = append(l, x)
	}
	return l
}

func disagree(w *world.World) bool {
	return slices.ContainsFunc(pairs(w), func(x pair) bool {
		if len(x.partners) != 1 {
			return true
		}
		f, g := x.facts, x.partners[0].Talk.Facts()
		if g.Done && (f.Transcript != g.Transcript || f.Resume != g.Resume) {
			return true
		}
		return f.Version != g.Version || f.Flight != g.Flight || !bytes.Equal(f.Mine, g.Theirs) || !bytes.Equal(f.Theirs, g.Mine) ||
			f.Client != g.Client || f.Server != g.Server || f.Ticket != g.Ticket || f.Early != g.Early
	})
}

func alike(w *world.World) bool {
	clients, sides := map[api.Term]int{}, map[api.Term]int{}
	for _, x := range pairs(w) {
		clients[x.facts.Flight]++
	}
	for s := range w.Servers() {
		for _, p := range w.Peers(s + 1) {
			if f := p.Talk.Facts(); f.Flight != 0 {
				sides[f.Flight]++
			}
		}
	}
	for _, all := range []map[api.Term]int{clients, sides} {
		for _, many := range all {
			if many > 1 {
				return true
			}
		}
	}
	return false
}

func told(w *world.World) bool {
	for _, c := range w.Clients() {
		if slices.ContainsFunc(c.Sent, w.Can) {
			return true
		}
	}
	for _, x := range pairs(w) {
		for _, p := range x.partners {
			if slices.ContainsFunc(p.Sent, w.Can) {
				return true
			}
		}
	}
	return false
}

func forged(w *world.World) bool {
	return slices.ContainsFunc(pairs(w), func(x pair) bool {
		if len(x.partners) != 1 {
			return false
		}
		p := x.partners[0]
		return !sent(x.Got, p.Sent) || !sent(p.Got, x.Sent)
	})
}

// sent: was all that was taken sent by its number, and each number taken once?
func sent(got []conn.Got, all []api.Term) bool {
	numbers := map[int]int{}
	for _, x := range got {
		numbers[x.Number]++
		if x.Number >= len(all) || all[x.Number] != x.Term || numbers[x.Number] > 1 {
			return false
		}
	}
	return true
}

func twiceEarly(w *world.World) bool {
	for s := range w.Servers() {
		tickets := map[api.Term]int{}
		for _, p := range w.Peers(s + 1) {
			f := p.Talk.Facts()
			if !f.Early {
				continue
			}
			if tickets[f.Ticket]++; tickets[f.Ticket] > 1 {
				return true
			}
		}
	}
	return false
}

func lowered(w *world.World) bool {
	return slices.ContainsFunc(pairs(w), func(x pair) bool {
		c, is := w.Config(x.Client.Server)
		return !is || choose.Pick(c.Server.Versions, x.Offers) != x.facts.Version
	})
}
