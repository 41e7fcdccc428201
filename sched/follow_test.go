package sched_test

import (
	"testing"

	"shibboleth/api"
	"shibboleth/know"
	"shibboleth/sched"
	"shibboleth/term"
)

// told gathers terms, and holds that none is told of two things.
type told map[api.Term]string

// add takes one more.
func (l told) add(t *testing.T, h api.Term, what string) {
	t.Helper()
	if was := l[h]; h == 0 || was != "" {
		t.Errorf("P15.2: %d is told of %q and %q", h, was, what)
	}
	l[h] = what
}

func TestP15_2DifferentTranscripts(t *testing.T) {
	x := term.New()
	all := told{}
	all.add(t, sched.Begin(x), "nothing")
	last := map[string]api.Term{"": sched.Begin(x)}
	for range 3 {
		next := map[string]api.Term{}
		for what, h := range last {
			for _, msg := range []string{"", "a", "b", "ab", "\x00"} {
				said := what + "|" + msg
				next[said] = sched.Next(x, h, []byte(msg))
				all.add(t, next[said], said)
			}
		}
		last = next
	}
	if len(all) != 1+5+25+125 {
		t.Errorf("P15.2: %d transcripts", len(all))
	}
}

func TestP15_2DifferentSecrets(t *testing.T) {
	x := term.New()
	a, b := x.Secret(), x.Secret()
	empty := sched.Begin(x)
	one := sched.Next(x, empty, []byte("hello"))
	two := sched.Next(x, one, []byte("hello"))
	c, d := sched.ShakenTraffic(x, a, one)
	secrets := []api.Term{a, b, c, d, sched.Main(x, a)}
	all := told{}
	for _, goal := range []string{"", "none", "goal", "goal2"} {
		client, server := sched.First(x, []byte(goal))
		all.add(t, client, "client in "+goal)
		all.add(t, server, "server in "+goal)
	}
	all.add(t, sched.Early(x, 0), "early of none")
	for _, s := range secrets {
		all.add(t, sched.Early(x, s), "early")
	}
	for _, r := range rules() {
		for _, s := range secrets {
			for _, tr := range []api.Term{empty, one, two} {
				for _, h := range r.call(x, s, tr) {
					all.add(t, h, r.name)
				}
				if r.alone {
					break
				}
			}
		}
	}
}

func TestP15_2SidesAreDifferent(t *testing.T) {
	x := term.New()
	a := x.Secret()
	tr := sched.Begin(x)
	c, s := sched.First(x, nil)
	e, f := sched.ShakenTraffic(x, a, tr)
	g, h := sched.MainTraffic(x, a, tr)
	all := told{}
	for i, k := range []api.Term{c, s, e, f, g, h} {
		all.add(t, k, string(rune('a'+i)))
		all.add(t, sched.Finished(x, k, tr), "finished by "+string(rune('a'+i)))
	}
}

// talk is what a talk's secrets and macs are, and of which of them each one is made.
type talk struct {
	terms map[string]api.Term
	of    map[string][]string
	base  []api.Term // what everybody knows
}

// newTalk is a talk, with a ticket or without.
func newTalk(x *term.Table, withTicket bool) talk {
	a, b, server := x.Secret(), x.Secret(), x.Secret()
	p, q := x.Make(public, list(a)), x.Make(public, list(b))
	empty := sched.Begin(x)
	one := sched.Next(x, empty, []byte("hello"))
	two := sched.Next(x, one, []byte("hello again"))
	k := map[string]api.Term{"shared": x.Make(shared, list(a, q))}
	of := map[string][]string{
		"early traffic": {"early"}, "binder": {"early"}, "shaken": {"early", "shared"},
		"client hs": {"shaken"}, "server hs": {"shaken"}, "main": {"shaken"},
		"client finished": {"client hs"}, "server finished": {"server hs"},
		"client app": {"main"}, "server app": {"main"}, "resume": {"main"}, "next early": {"resume"},
		"early": {"ticket"},
	}
	if withTicket {
		k["ticket"] = x.Secret()
	} else {
		of["early"] = []string{}
	}
	k["early"] = sched.Early(x, k["ticket"])
	k["early traffic"] = sched.EarlyTraffic(x, k["early"], one)
	k["binder"] = sched.Binder(x, k["early"], one)
	k["shaken"] = sched.Shaken(x, k["early"], k["shared"])
	k["client hs"], k["server hs"] = sched.ShakenTraffic(x, k["shaken"], two)
	k["client finished"], k["server finished"] = sched.Finished(x, k["client hs"], two), sched.Finished(x, k["server hs"], two)
	k["main"] = sched.Main(x, k["shaken"])
	k["client app"], k["server app"] = sched.MainTraffic(x, k["main"], two)
	k["resume"] = sched.Resume(x, k["main"], two)
	k["next early"] = sched.Early(x, k["resume"])
	base := []api.Term{p, q, x.Make(public, list(server)), empty, one, two, sched.Signed(x, two), x.Make(signed, list(server, sched.Signed(x, two)))}
	return talk{terms: k, of: of, base: base}
}

// can: does the document let a term be made by who knows some?
func (k talk) can(what string, known map[string]int) bool {
	if known[what] > 0 {
		return true
	}
	of, is := k.of[what]
	for _, part := range of {
		is = is && k.can(part, known)
	}
	return is
}

// follows holds what can be made by who knows some of a talk.
func (k talk) follows(t *testing.T, x *term.Table, known ...string) {
	t.Helper()
	l, marked := k.base, map[string]int{}
	for _, what := range known {
		if k.terms[what] != 0 {
			l, marked[what] = append(l[:len(l):len(l)], k.terms[what]), 1
		}
	}
	for what, h := range k.terms {
		if h == 0 {
			continue
		}
		if want := k.can(what, marked); know.Can(x, l, h) != want {
			t.Errorf("P15.2: who knows %q can make %q: %t", known, what, !want)
		}
	}
}

func TestP15_2WhatCanBeMade(t *testing.T) {
	for _, withTicket := range []bool{true, false} {
		x := term.New()
		k := newTalk(x, withTicket)
		k.follows(t, x)
		for one := range k.terms {
			for other := range k.terms {
				k.follows(t, x, one, other)
			}
		}
	}
}

// Whose traffic is not known, of that nothing that was sent by it helps.
func TestP15_2WhoHearsAllMakesNone(t *testing.T) {
	x := term.New()
	k := newTalk(x, true)
	k.base = append(k.base, k.terms["binder"], k.terms["client finished"], k.terms["server finished"])
	for _, what := range []string{"ticket", "shared", "early", "early traffic", "shaken", "client hs", "server hs", "main", "client app", "server app", "resume", "next early"} {
		if h := k.terms[what]; h == 0 || know.Can(x, k.base, h) {
			t.Errorf("P15.2: he makes %q", what)
		}
	}
	// Nor another mac by them, nor another server's proof.
	other := sched.Next(x, sched.Begin(x), []byte("other"))
	for _, h := range []api.Term{sched.Binder(x, k.terms["early"], other), sched.Finished(x, k.terms["client hs"], other), sched.Finished(x, k.terms["server hs"], other)} {
		if h == 0 || know.Can(x, k.base, h) {
			t.Errorf("P15.2: he makes the mac %d", h)
		}
	}
}

// First secrets hang on nothing that is not told to everybody, and so does early without a ticket.
func TestP15_2WhatEverybodyCanMake(t *testing.T) {
	x := term.New()
	tr := sched.Next(x, sched.Begin(x), []byte("hello"))
	c, s := sched.First(x, []byte("goal"))
	early := sched.Early(x, 0)
	for _, h := range []api.Term{tr, c, s, early, sched.EarlyTraffic(x, early, tr), sched.Binder(x, early, tr), sched.Finished(x, c, tr), sched.Signed(x, tr)} {
		if !know.Can(x, nil, h) {
			t.Errorf("P15.2: nobody can make %d", h)
		}
	}
	// Of the secret of one side the shared one can be made, as soon as the other's public one is known; and all behind it.
	a, b := x.Secret(), x.Secret()
	q := x.Make(public, list(b))
	main := sched.Main(x, sched.Shaken(x, early, x.Make(shared, list(a, q))))
	client, server := sched.MainTraffic(x, main, tr)
	for _, h := range []api.Term{main, client, server, sched.Resume(x, main, tr)} {
		if know.Can(x, list(a), h) || know.Can(x, list(q), h) || !know.Can(x, list(a, q), h) || !know.Can(x, list(a, b), h) {
			t.Errorf("P15.2: by its shares, %d", h)
		}
	}
}
