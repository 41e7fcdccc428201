package audit

import (
	"slices"

	"shibboleth/api"
	"shibboleth/client"
	"shibboleth/world"
)

// scene is a world as it stands. A world copies what it tells, so it is asked once.
type scene struct {
	guests []guest
	hosts  []host
	can    func(h api.Term) bool // he who stands between
}

// guest is a client, and what it has.
type guest struct {
	world.Client
	facts    client.Facts
	host     host  // the server that it meant
	partners []int // among that one's sides, from 1 on
}

// host is a server.
type host struct {
	versions []int
	sides    []side
}

// side is a server's side, and what it has.
type side struct {
	world.Peer
	facts client.Facts
}

// see asks a world what there is.
func see(w *world.World) *scene {
	s := &scene{can: w.Can}
	for n := 1; n <= w.Servers(); n++ {
		c, _ := w.Config(n)
		s.hosts = append(s.hosts, host{versions: c.Server.Versions, sides: sides(w.Peers(n))})
	}
	for _, c := range w.Clients() {
		g := guest{Client: c, facts: c.Talk.Facts(), host: s.hosts[c.Server-1]}
		g.partners = partners(g.facts, g.host.sides)
		s.guests = append(s.guests, g)
	}
	return s
}

// sides tells what a server's sides have.
func sides(peers []world.Peer) []side {
	var l []side
	for _, p := range peers {
		l = append(l, side{Peer: p, facts: p.Talk.Facts()})
	}
	return l
}

// partners tells which ones of its server's sides, from 1 on, have a client's secrets; none, if it is not done.
func partners(f client.Facts, sides []side) []int {
	var l []int
	for i, x := range sides {
		g := x.facts
		if f.Done && g.Flight != 0 && (g.Client == f.Client || g.Server == f.Server) {
			l = append(l, i+1)
		}
	}
	return l
}

// partner tells the n-th side of the server that it meant, from 1 on.
func (g guest) partner(n int) side {
	return g.host.sides[n-1]
}

// only tells its only partner; false, if it has none, or more.
func (g guest) only() (side, bool) {
	if len(g.partners) != 1 {
		return side{}, false
	}
	return g.partner(g.partners[0]), true
}

// anyDone: is there a client that is done, of which something holds?
func (s *scene) anyDone(holds func(g guest) bool) bool {
	return slices.ContainsFunc(s.guests, func(g guest) bool { return g.facts.Done && holds(g) })
}

// anySide: is there a server's side of which something holds, that is asked of the server's place and what the side has?
func (s *scene) anySide(holds func(server int, f client.Facts) bool) bool {
	for n, h := range s.hosts {
		if slices.ContainsFunc(h.sides, func(x side) bool { return holds(n, x.facts) }) {
			return true
		}
	}
	return false
}
