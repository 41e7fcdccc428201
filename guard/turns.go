package guard

import (
	"shibboleth/api"
	"shibboleth/header"
	"shibboleth/ideal"
)

const updateLabel = "update"

// turns tells how often the secrets of the level 3 have changed.
type turns struct {
	reading, writing int // the generations
	first            int // the number of the first packet that was opened in the reading generation
	// The generation of the secret to write with that is there. It may be behind: a generation is one more also where the table has no room for its secret.
	written int
}

// Update changes the secret to write with.
func (g *Guard) Update() api.Errno {
	if g == nil {
		return api.ErrArg
	}
	read, write := g.Has(api.App)
	if !read || !write || g.turns.writing > g.turns.reading {
		return api.ErrState
	}
	g.turns.writing++
	return api.OK
}

// Phases tells both generations.
func (g *Guard) Phases() (read, write int) {
	if g == nil {
		return 0, 0
	}
	return g.turns.reading, g.turns.writing
}

// phase tells the phase of a generation's packets.
func phase(generation int) int {
	return generation % 2
}

// next is the secret behind one; 0, if the table has no room.
func (g *Guard) next(secret api.Term) api.Term {
	return ideal.Derive(g.table, secret, updateLabel, 0)
}

// writing is a level's secret to write with, which is there; 0, if the table has no room for that of the writing generation.
func (g *Guard) writing(level int) api.Term {
	l := &g.levels[level]
	if level != api.App {
		return l.write
	}
	for g.turns.written < g.turns.writing {
		next := g.next(l.write)
		if next == 0 {
			return 0
		}
		l.write = next
		g.turns.written++
	}
	return l.write
}

// reads: is there a secret that opens a packet, of those that may? If it is the next one, that is read with from then on.
func (g *Guard) reads(h header.Header, number int, opens func(secret api.Term) bool) bool {
	l := &g.levels[h.Kind]
	if h.Kind != api.App || h.Phase == phase(g.turns.reading) {
		return opens(l.read)
	}
	if g.turns.reading > 0 && number < g.turns.first {
		return opens(l.past)
	}
	next := g.next(l.read)
	if !opens(next) {
		return false
	}
	l.past, l.read = l.read, next
	g.turns.reading++
	g.turns.writing = max(g.turns.writing, g.turns.reading)
	g.turns.first = number
	return true
}
