package server_test

import (
	"fmt"
	"reflect"
	"slices"
	"testing"

	"shibboleth/api"
	"shibboleth/client"
	"shibboleth/hello"
	"shibboleth/params"
	"shibboleth/sched"
	"shibboleth/server"
	"shibboleth/strike"
	"shibboleth/term"
	"shibboleth/ticket"
)

// talks tells by name what comes, and what a server has to make of it.
func talks() map[string]func(g *guest) {
	offers := func(version int, l ...int) func(g *guest) {
		return func(g *guest) { g.p.Versions = l; g.want.version = version }
	}
	resumes := func(version int, more func(g *guest)) func(g *guest) {
		return func(g *guest) {
			g.withTicket(version)
			more(g)
		}
	}
	comes := func(takes bool) func(g *guest) {
		return func(g *guest) {
			g.version, g.p.Chosen = 2, 2 // the ticket's
			g.early, g.want.early = true, takes
		}
	}
	at := func(now int, takes bool) func(g *guest) {
		return func(g *guest) { g.now, g.want.taken = now, takes }
	}
	return map[string]func(g *guest){
		"without a ticket":                         func(g *guest) {},
		"the server likes 2 best":                  offers(2, 1, 3, 2),
		"one version":                              offers(3, 3),
		"versions that it does not have, too":      offers(1, 77, 1, 78),
		"not even the one with which it begins":    offers(9, 9),
		"the flag without a ticket":                func(g *guest) { g.early = true },
		"an empty own name":                        func(g *guest) { g.peer, g.p.Own = nil, nil },
		"zeros of params":                          func(g *guest) { g.p.Idle, g.p.Data = 0, 0 },
		"a random that is no term":                 func(g *guest) { g.change = func(m *hello.Msg) { m.Random = noSuch } },
		"time 0":                                   func(g *guest) { g.now = 0 },
		"with a ticket":                            resumes(2, func(g *guest) {}),
		"with a ticket of another version":         resumes(1, func(g *guest) {}),
		"early data with that":                     resumes(1, func(g *guest) { g.early, g.version, g.p.Chosen = true, 1, 1 }),
		"with a ticket of a version that it hates": resumes(77, func(g *guest) {}),
		"with a ticket at its time":                resumes(2, at(90, true)),
		"with a ticket at its end":                 resumes(2, at(110, true)),
		"with a ticket ahead of its time":          resumes(2, at(89, false)),
		"with a ticket behind its end":             resumes(2, at(111, false)),
		"with a ticket by another key": resumes(2, func(g *guest) {
			g.pass, g.want.taken = ticket.Issue(g.x, g.b.c.Secret, g.life), false
		}),
		"with a ticket that is a text":    resumes(2, func(g *guest) { g.pass, g.want.taken = g.x.Text([]byte("ticket")), false }),
		"with a ticket that is no term":   resumes(2, func(g *guest) { g.pass, g.want.taken = noSuch, false }),
		"another one's mac, but no right": resumes(1, func(g *guest) { g.mac = g.life.Secret }),
		"early data":                      resumes(2, comes(true)),
		"early data at the ticket's time": resumes(2, func(g *guest) { comes(true)(g); g.now = 90 }),
		"early data by another version": resumes(2, func(g *guest) {
			comes(false)(g)
			g.version, g.p.Chosen = 1, 1
		}),
		"no early data, though a ticket":   resumes(2, func(g *guest) { g.version, g.p.Chosen = 2, 2 }),
		"early data behind the ticket":     resumes(2, func(g *guest) { comes(false)(g); g.now, g.want.taken = 111, false }),
		"early data, no store":             resumes(2, func(g *guest) { comes(false)(g); g.b.c.Store = nil }),
		"early data, no room in the store": resumes(2, func(g *guest) { comes(false)(g); g.b.c.Store = strike.New(50, 0) }),
		"early data, too old for the store": resumes(2, func(g *guest) {
			comes(false)(g)
			g.b.c.Store = strike.New(9, 5)
		}),
		"early data, just not too old": resumes(2, func(g *guest) { comes(true)(g); g.b.c.Store = strike.New(10, 5) }),
		"early data that were taken":   resumes(2, func(g *guest) { comes(false)(g); g.b.c.Store.Try(g.pass, 100, 100) }),
		"early data of another one were taken": resumes(2, func(g *guest) {
			comes(true)(g)
			g.b.c.Store.Try(g.pass+1, 100, 100)
		}),
	}
}

const noSuch = 1 << 16 // the greatest number of a term; here no table has it till it is filled

func TestP21_2TheWholeTalk(t *testing.T) {
	for what, change := range talks() {
		for _, again := range []bool{false, true} {
			b := stored()
			b.again = again
			g := coming(b)
			change(g)
			b.c = g.b.c
			s, e := b.new()
			if e != api.OK {
				t.Fatalf("P21.1: %s: %d", what, e)
			}
			g.goes(t, fmt.Sprint(what, ", behind a retry: ", again), s)
		}
	}
}

// The store takes a ticket just where early data are taken.
func TestP21_2TheStore(t *testing.T) {
	for what, change := range talks() {
		b := stored()
		g := coming(b)
		change(g)
		store := g.b.c.Store
		many := store.Many()
		b.c = g.b.c
		s, _ := b.new()
		g.goes(t, what, s)
		want := many
		if g.want.early {
			want++
			if e := store.Try(g.pass, g.now, g.now); e != api.ErrTwice {
				t.Errorf("P21.2: %s: the ticket again: %d", what, e)
			}
		}
		if got := store.Many(); got != want {
			t.Errorf("P21.2: %s: the store holds %d, not %d", what, got, want)
		}
	}
}

// The store is told when the ticket was made, not when it comes.
func TestP21_2TheTicketsTimeInTheStore(t *testing.T) {
	for now, want := range map[int]int{140: 2, 141: 1} {
		b := stored() // a window of 50
		g := coming(b)
		talks()["early data"](g)
		s, _ := b.new()
		g.goes(t, "early data", s) // made at 90, come at 100
		b.c.Store.Try(noSuch, now, now)
		if got := b.c.Store.Many(); got != want {
			t.Errorf("P21.2: at %d the store holds %d, not %d", now, got, want)
		}
	}
}

// With each ticket a server takes early data at most once; the talk goes on without them.
func TestP21_2EarlyDataOnce(t *testing.T) {
	b := stored()
	first := coming(b)
	talks()["early data"](first)
	for i := range 4 {
		s, _ := b.new()
		g := coming(b)
		g.pass, g.life, g.version, g.p.Chosen, g.early = first.pass, first.life, 2, 2, true
		g.want = wanted{version: 2, taken: true, early: i == 0}
		g.goes(t, fmt.Sprint("the time ", i), s)
	}
}

// fails lets a message come with which a server fails, for good, and which changes nothing that it has.
func (g *guest) fails(t *testing.T, what string, s *server.Server, level int, msg []byte, want api.Errno) {
	t.Helper()
	was := s.Facts()
	if step := s.Handle(level, msg, g.peer, g.version, g.now); !reflect.DeepEqual(step, client.Step{Fail: want}) {
		t.Errorf("P21.2: %s: %v, not %d", what, step, want)
	}
	if f := s.Facts(); !reflect.DeepEqual(f, was) {
		t.Errorf("P21.2: %s: facts %v behind %v", what, f, was)
	}
}

// stage is a server that has taken so many messages, its guest, and the next message and its level.
func stage(t *testing.T, n int) (s *server.Server, g *guest, level int, msg []byte) {
	t.Helper()
	b := stored()
	s, _ = b.new()
	g = coming(b)
	msg = g.says()
	if n == 0 {
		return s, g, api.Initial, msg
	}
	g.takes(t, "a stage", s, g.hands(t, s, api.Initial, msg, g.now))
	msg, _, _, _ = g.ends(g.now)
	if n == 1 {
		return s, g, api.Handshake, msg
	}
	if step := g.hands(t, s, api.Handshake, msg, g.now); step.Fail != api.OK {
		t.Fatalf("P21.2: %v", step)
	}
	return s, g, -1, nil // it waits for nothing
}

// each is a right message of each kind.
func (g *guest) each() map[int][]byte {
	l := map[int][]byte{
		clientHello: g.hello,
		serverHello: hello.Write(hello.Msg{Kind: serverHello, Random: 1, Share: g.x.Make(public, []api.Term{g.secret}), Version: 2}),
		ticketKind:  hello.Write(hello.Msg{Kind: ticketKind, Ticket: 1, Life: 5}),
		paramsKind:  hello.Write(hello.Msg{Kind: paramsKind, Params: params.Write(g.p)}),
		nameKind:    hello.Write(hello.Msg{Kind: nameKind, Name: "host"}),
		proofKind:   hello.Write(hello.Msg{Kind: proofKind, Mac: 1}),
		finished:    hello.Write(hello.Msg{Kind: finished, Mac: 1}),
	}
	if g.clientHs != 0 {
		l[finished], _, _, _ = g.ends(g.now)
	}
	return l
}

func TestP21_2AnotherMessageOrLevel(t *testing.T) {
	for n := range 3 {
		_, g, _, _ := stage(t, n)
		for kind := range g.each() {
			for _, level := range []int{-1 << 63, -1, 0, 1, 2, 3, 4, 1<<63 - 1} {
				s, g, right, next := stage(t, n)
				if next != nil && kind == int(next[0]) && level == right {
					continue
				}
				what := fmt.Sprint("stage ", n, ", kind ", kind, ", level ", level)
				g.fails(t, what, s, level, g.each()[kind], api.ErrProto)
				if next == nil {
					next = g.hello
				}
				g.fails(t, what+", again", s, max(right, 0), next, api.ErrState)
			}
		}
	}
}

func TestP21_2NoMessage(t *testing.T) {
	for n := range 3 {
		_, g, _, next := stage(t, n)
		if next == nil {
			next = g.hello
		}
		long := append([]byte{next[0], 0, 7, 209}, make([]byte, 2001)...)
		for i, msg := range [][]byte{nil, {}, {0}, {3, 0, 0, 0}, next[:len(next)-1], append(slices.Clone(next), 0), append(slices.Clone(next), next...), long, make([]byte, 5000)} {
			for _, level := range []int{-1, 0, 1, 2, 3, 4} {
				s, g, right, next := stage(t, n)
				what := fmt.Sprint("stage ", n, ", bytes ", i, ", level ", level)
				g.fails(t, what, s, level, msg, api.ErrForm)
				g.fails(t, what+", again", s, level, msg, api.ErrForm)
				if next == nil {
					next = g.hello
				}
				g.fails(t, what+", behind that", s, max(right, 0), next, api.ErrState)
			}
		}
	}
}

// A time below 0 is as if nothing had come.
func TestP21_2ATimeBelow0(t *testing.T) {
	for n := range 2 {
		s, g, level, msg := stage(t, n)
		for _, now := range []int{-1, -1 << 63} {
			was, size := s.Facts(), g.x.Size()
			step := s.Handle(level, msg, g.peer, g.version, now)
			if !reflect.DeepEqual(step, client.Step{Fail: api.ErrArg}) || !reflect.DeepEqual(s.Facts(), was) || g.x.Size() != size {
				t.Errorf("P21.2: at %d: %v, facts %v", now, step, s.Facts())
			}
		}
		if step := s.Handle(level, msg, g.peer, g.version, 0); step.Fail != api.OK {
			t.Errorf("P21.2: behind a time below 0: %v", step)
		}
	}
}

// badHellos tells by name what is wrong of a hello, and what it ends in.
func badHellos() map[string]struct {
	change func(g *guest)
	want   api.Errno
} {
	type bad = struct {
		change func(g *guest)
		want   api.Errno
	}
	share := func(of func(x *term.Table) api.Term) bad {
		return bad{func(g *guest) { g.change = func(m *hello.Msg) { m.Share = of(g.x) } }, api.ErrProto}
	}
	told := func(change func(p *params.Params)) bad {
		return bad{func(g *guest) { change(&g.p) }, api.ErrProto}
	}
	mac := func(of func(g *guest) api.Term) bad {
		return bad{func(g *guest) { g.withTicket(2).mac = of(g) }, api.ErrProto}
	}
	return map[string]bad{
		"no own name":               told(func(p *params.Params) { p.HasOwn, p.Own = false, nil }),
		"another own name":          told(func(p *params.Params) { p.Own[0]++ }),
		"a shorter own name":        told(func(p *params.Params) { p.Own = p.Own[:6] }),
		"a longer own name":         told(func(p *params.Params) { p.Own = append(p.Own, 0) }),
		"an empty own name":         told(func(p *params.Params) { p.Own = nil }),
		"no own name from no name":  {func(g *guest) { g.peer, g.p.HasOwn, g.p.Own = nil, false, nil }, api.ErrProto},
		"a goal":                    told(func(p *params.Params) { p.HasGoal, p.Goal = true, []byte("the goal") }),
		"an empty goal":             told(func(p *params.Params) { p.HasGoal = true }),
		"a retry's":                 told(func(p *params.Params) { p.HasRetry, p.Retry = true, []byte("re-try") }),
		"an empty retry's":          told(func(p *params.Params) { p.HasRetry = true }),
		"another version as chosen": told(func(p *params.Params) { p.Chosen = 2 }),
		"packets of another version": {func(g *guest) {
			g.version = 2
		}, api.ErrProto},
		"packets of no version":     {func(g *guest) { g.version = 0 }, api.ErrProto},
		"a secret as share":         share(func(x *term.Table) api.Term { return x.Secret() }),
		"a text as share":           share(func(x *term.Table) api.Term { return x.Text(nil) }),
		"a share that is no term":   share(func(*term.Table) api.Term { return noSuch }),
		"no version that it has":    {func(g *guest) { g.p.Versions = []int{4, 5} }, api.ErrVersion},
		"no versions":               {func(g *guest) { g.p.Versions = nil }, api.ErrVersion},
		"no version, and no ticket": {func(g *guest) { g.withTicket(2).mac = 1; g.p.Versions = []int{4} }, api.ErrVersion},
		"no version, another name":  {func(g *guest) { g.p.Versions = nil; g.p.Own = nil }, api.ErrProto},
		"no version, and no share": {func(g *guest) {
			g.p.Versions = nil
			g.change = func(m *hello.Msg) { m.Share = g.b.c.Secret }
		}, api.ErrProto},
		"a mac that is a secret": mac(func(g *guest) api.Term { return g.life.Secret }),
		"a mac that is no term":  mac(func(g *guest) api.Term { return noSuch }),
		"a mac of nothing": mac(func(g *guest) api.Term {
			return sched.Binder(g.x, sched.Early(g.x, g.life.Secret), sched.Begin(g.x))
		}),
		"a mac by no ticket":         mac(func(g *guest) api.Term { return otherMac(g, sched.Early(g.x, 0), 4) }),
		"a mac by another ticket":    mac(func(g *guest) api.Term { return otherMac(g, sched.Early(g.x, g.x.Secret()), 4) }),
		"a mac by the secret itself": mac(func(g *guest) api.Term { return otherMac(g, g.life.Secret, 4) }),
		"a mac of all but a byte":    mac(func(g *guest) api.Term { return otherMac(g, sched.Early(g.x, g.life.Secret), 3) }),
	}
}

// otherMac is a ticket's mac by a secret of a hello without so many bytes; g says the same hello.
func otherMac(g *guest, early api.Term, less int) api.Term {
	secret, random := g.x.Secret(), g.x.Secret()
	share := g.x.Make(public, []api.Term{secret})
	g.change = func(m *hello.Msg) { m.Random, m.Share = random, share }
	b := hello.Write(hello.Msg{Kind: clientHello, Random: random, Share: share, Flag: g.early, Ticket: g.pass, Params: params.Write(g.p), Mac: 1})
	return sched.Binder(g.x, early, sched.Next(g.x, sched.Begin(g.x), b[:len(b)-less]))
}

func TestP21_2AHelloThatIsNotRight(t *testing.T) {
	for what, x := range badHellos() {
		for _, full := range []bool{false, true} {
			b := stored()
			s, _ := b.new()
			g := coming(b)
			x.change(g)
			msg := g.says()
			if m, _ := hello.Read(msg); full && (m.Share == noSuch || m.Mac == noSuch) {
				continue // a full table has each number
			}
			if full { // every other error is named ahead of ErrFull
				fill(g.x, 0)
			}
			g.fails(t, what, s, api.Initial, msg, x.want)
			g.fails(t, what+", again", s, api.Initial, msg, api.ErrState)
			if b.c.Store.Many() != 0 {
				t.Errorf("P21.2: %s: the store holds %d", what, b.c.Store.Many())
			}
		}
	}
}

// The same mac that is refused above is right, where it is the ticket's.
func TestP21_2AMacByHand(t *testing.T) {
	b := stored()
	s, _ := b.new()
	g := coming(b)
	g.withTicket(2).mac = otherMac(g, sched.Early(g.x, g.life.Secret), 4)
	if step := s.Handle(api.Initial, g.says(), g.peer, g.version, g.now); step.Fail != api.OK || len(step.Out) != 3 {
		t.Errorf("P21.2: %v", step)
	}
}

func TestP21_2AFinishedThatIsNotRight(t *testing.T) {
	for what, of := range map[string]func(g *guest) api.Term{
		"the server's mac":            func(g *guest) api.Term { return sched.Finished(g.x, g.serverHs, g.heard) },
		"of another transcript":       func(g *guest) api.Term { return sched.Finished(g.x, g.clientHs, sched.Begin(g.x)) },
		"by another secret":           func(g *guest) api.Term { return sched.Finished(g.x, g.x.Secret(), g.heard) },
		"a binder":                    func(g *guest) api.Term { return sched.Binder(g.x, g.clientHs, g.heard) },
		"by the secret itself":        func(g *guest) api.Term { return g.x.Make(5, []api.Term{g.clientHs, g.heard}) },
		"the secret":                  func(g *guest) api.Term { return g.clientHs },
		"the first term of the table": func(g *guest) api.Term { return 1 },
		"no term":                     func(g *guest) api.Term { return noSuch },
	} {
		for _, full := range []bool{false, true} {
			s, g, level, right := stage(t, 1)
			mac := of(g)
			if full && mac == noSuch {
				continue
			}
			if full {
				fill(g.x, 0)
			}
			g.fails(t, what, s, level, hello.Write(hello.Msg{Kind: finished, Mac: mac}), api.ErrSeal)
			g.fails(t, what+", again", s, level, right, api.ErrState)
			if f := s.Facts(); f.Done || f.Flight == 0 || f.Transcript != 0 || f.Resume != 0 {
				t.Errorf("P21.2: %s: %v", what, f)
			}
		}
	}
}

// What it has it keeps, also when it fails behind its end.
func TestP21_2WhatItHasItKeeps(t *testing.T) {
	for _, again := range []bool{false, true} {
		b := stored()
		b.again = again
		s, _ := b.new()
		g := coming(b)
		g.goes(t, "a talk", s)
		g.fails(t, "finished again", s, api.Handshake, g.each()[finished], api.ErrProto)
		g.fails(t, "a hello again", s, api.Initial, g.hello, api.ErrState)
		if f := s.Facts(); !f.Done || f.Resume == 0 {
			t.Errorf("P21.2: %v", f)
		}
	}
}

// What is handed out is new memory.
func TestR4WhatIsHandedOut(t *testing.T) {
	s, g, level, msg := stage(t, 1)
	for range 3 {
		f := s.Facts()
		if string(f.Mine) != string(params.Write(g.tells())) || string(f.Theirs) != string(params.Write(g.p)) {
			t.Fatalf("R4: facts %v", f)
		}
		clear(f.Mine)
		clear(f.Theirs)
		f.Mine, f.Theirs = append(f.Mine, 1), append(f.Theirs, 1)
	}
	want := s.Facts()
	step := s.Handle(level, msg, g.peer, g.version, g.now)
	clear(step.Out[0].Data)
	clear(step.Keys)
	if f := s.Facts(); string(f.Mine) != string(want.Mine) || f.Client != want.Client || f.Server != want.Server {
		t.Errorf("R4: facts %v, not %v", f, want)
	}
}

// needs tells how much room a server needs for a message, and what it makes of it in a table with so much room.
func needs(t *testing.T, finish, resumes bool, room int) (int, client.Step, client.Facts) {
	t.Helper()
	b := stored()
	s, _ := b.new()
	g := coming(b)
	if resumes {
		talks()["early data"](g)
	}
	level, msg := api.Initial, g.says()
	if finish { // by hand, so that the table has nothing of what a server makes of it
		step := s.Handle(level, msg, g.peer, g.version, g.now)
		h, _ := hello.Read(step.Out[0].Data)
		heard := sched.Next(g.x, sched.Next(g.x, sched.Begin(g.x), msg), step.Out[0].Data)
		early := sched.Early(g.x, g.life.Secret)
		shaken := sched.Shaken(g.x, early, g.x.Make(shared, []api.Term{g.secret, h.Share}))
		mine, _ := sched.ShakenTraffic(g.x, shaken, heard)
		level, msg = api.Handshake, hello.Write(hello.Msg{Kind: finished, Mac: sched.Finished(g.x, mine, s.Facts().Flight)})
	}
	if room >= 0 {
		fill(g.x, room)
	}
	size := g.x.Size()
	step := s.Handle(level, msg, g.peer, g.version, g.now)
	f := s.Facts()
	used := g.x.Size() - size
	if next := s.Handle(level, msg, g.peer, g.version, g.now); step.Fail != api.OK && next.Fail != api.ErrState {
		t.Errorf("P21.2: behind %d it tells %d", step.Fail, next.Fail)
	}
	return used, step, f
}

func TestP21_2NoRoom(t *testing.T) {
	for _, finish := range []bool{false, true} {
		for _, resumes := range []bool{false, true} {
			needed, s, _ := needs(t, finish, resumes, -1)
			if s.Fail != api.OK || needed < 8 {
				t.Fatalf("P21.2: finish %t, ticket %t: %v, with %d terms", finish, resumes, s, needed)
			}
			for room := range needed {
				_, s, f := needs(t, finish, resumes, room)
				if !reflect.DeepEqual(s, client.Step{Fail: api.ErrFull}) || f.Done || (f.Flight != 0) != finish || f.Transcript != 0 || f.Resume != 0 {
					t.Errorf("P21.2: finish %t, ticket %t, room %d of %d: %v, facts %v", finish, resumes, room, needed, s, f)
				}
			}
			if _, s, f := needs(t, finish, resumes, needed); s.Fail != api.OK || f.Done != finish {
				t.Errorf("P21.2: finish %t, ticket %t, just enough room: %v, facts %v", finish, resumes, s, f)
			}
		}
	}
}
