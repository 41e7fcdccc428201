package audit

import (
	"bytes"
	"slices"

	"shibboleth/api"
	"shibboleth/choose"
	"shibboleth/client"
	"shibboleth/conn"
)

// theorem is what may not hold of a world, by its word.
type theorem struct {
	word  string
	fails func(s *scene) bool
}

// theorems tells all of them, in the order in which they are told.
func theorems() [6]theorem {
	return [6]theorem{
		{"agree", disagree},
		{"unique", twice},
		{"secret", learnt},
		{"honest", forged},
		{"early", earlyTwice},
		{"version", lowered},
	}
}

// disagree: has a client that is done not just one partner, or other facts than that one?
func disagree(s *scene) bool {
	return s.anyDone(func(g guest) bool {
		p, is := g.only()
		return !is || !agree(g.facts, p.facts)
	})
}

// agree: are a client's facts its partner's? What one side calls its own the other one calls theirs.
func agree(c, s client.Facts) bool {
	if s.Done && (c.Transcript != s.Transcript || c.Resume != s.Resume) {
		return false
	}
	return c.Version == s.Version && c.Flight == s.Flight &&
		bytes.Equal(c.Mine, s.Theirs) && bytes.Equal(c.Theirs, s.Mine) &&
		c.Client == s.Client && c.Server == s.Server &&
		c.Ticket == s.Ticket && c.Early == s.Early
}

// twice: have two clients that are done, or two sides of servers, the same Flight?
func twice(s *scene) bool {
	ofClient, ofSide := again[api.Term](), again[api.Term]()
	return s.anyDone(func(g guest) bool { return ofClient(g.facts.Flight) }) ||
		s.anySide(func(_ int, f client.Facts) bool { return f.Flight != 0 && ofSide(f.Flight) })
}

// learnt: can he make what a client has sent, or a partner of one that is done?
func learnt(s *scene) bool {
	can := func(l []api.Term) bool { return slices.ContainsFunc(l, s.can) }
	return slices.ContainsFunc(s.guests, func(g guest) bool {
		return can(g.Sent) || slices.ContainsFunc(g.partners, func(n int) bool { return can(g.partner(n).Sent) })
	})
}

// forged: has a client that is done, or its only partner, taken what the other one has not sent so?
func forged(s *scene) bool {
	return s.anyDone(func(g guest) bool {
		p, is := g.only()
		return is && !(honest(g.Got, p.Sent) && honest(p.Got, g.Sent))
	})
}

// honest: was all that was taken sent, by its number, and nothing taken twice?
func honest(got []conn.Got, sent []api.Term) bool {
	taken := again[int]()
	return !slices.ContainsFunc(got, func(x conn.Got) bool {
		return x.Number >= len(sent) || sent[x.Number] != x.Term || taken(x.Number)
	})
}

// claim is a ticket with which a server took early data.
type claim struct {
	server int
	ticket api.Term
}

// earlyTwice: did two sides of one server take early data with one ticket?
func earlyTwice(s *scene) bool {
	claimed := again[claim]()
	return s.anySide(func(server int, f client.Facts) bool { return f.Early && claimed(claim{server, f.Ticket}) })
}

// lowered: has a client that is done a version that its server does not pick of what it offers?
func lowered(s *scene) bool {
	return s.anyDone(func(g guest) bool { return choose.Pick(g.host.versions, g.Offers) != g.facts.Version })
}

// again is what tells of each thing if it was asked of it ahead.
func again[T comparable]() func(x T) bool {
	asked := map[T]struct{}{}
	return func(x T) bool {
		_, is := asked[x]
		asked[x] = struct{}{}
		return is
	}
}
