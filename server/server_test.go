package server_test

import (
	"bytes"
	"reflect"
	"strings"
	"testing"

	"shibboleth/api"
	"shibboleth/client"
	"shibboleth/server"
	"shibboleth/strike"
	"shibboleth/term"
)

// The kinds of terms, by the document's numbers.
const (
	secret = 2
	public = 7
	shared = 8
	signed = 9
)

// The kinds of messages, by the document's numbers.
const (
	clientHello = 1
	serverHello = 2
	ticketKind  = 4
	paramsKind  = 8
	nameKind    = 11
	proofKind   = 15
	finished    = 20
)

// begin is all that New is given.
type begin struct {
	x                *term.Table
	c                server.Config
	own, goal, retry []byte
	again            bool
}

func (b begin) new() (*server.Server, api.Errno) {
	return server.New(b.x, b.c, b.own, b.goal, b.retry, b.again)
}

// plain is what a server without a store is given.
func plain() begin {
	x := term.New()
	c := server.Config{Name: "host", Secret: x.Secret(), Versions: []int{9, 2, 1, 3}, Idle: 7, Data: 8, Key: x.Secret(), Life: 30}
	return begin{x: x, c: c, own: []byte("own name"), goal: []byte("the goal"), retry: []byte("re-try")}
}

// stored is what a server with a store is given.
func stored() begin {
	b := plain()
	b.c.Store = strike.New(50, 5)
	return b
}

// wrong tells by name what may not be, each alone.
func wrong() map[string]func(b *begin) {
	return map[string]func(b *begin){
		"no table":           func(b *begin) { b.x = nil },
		"no name":            func(b *begin) { b.c.Name = "" },
		"51 bytes of a name": func(b *begin) { b.c.Name = strings.Repeat("n", 51) },
		"no secret":          func(b *begin) { b.c.Secret = 0 },
		"a secret below 0":   func(b *begin) { b.c.Secret = -b.c.Secret },
		"a public term":      func(b *begin) { b.c.Secret = b.x.Make(public, []api.Term{b.c.Secret}) },
		"a text as secret":   func(b *begin) { b.c.Secret = b.x.Text([]byte("s")) },
		"a derived one as secret": func(b *begin) {
			b.c.Secret = b.x.Make(6, []api.Term{b.c.Secret, b.x.Text(nil), b.c.Secret})
		},
		"a secret that is none":  func(b *begin) { b.c.Secret = api.Term(b.x.Size() + 1) },
		"no key":                 func(b *begin) { b.c.Key = 0 },
		"a key below 0":          func(b *begin) { b.c.Key = -1 },
		"a key that is none":     func(b *begin) { b.c.Key = api.Term(b.x.Size() + 1) },
		"a key that is far away": func(b *begin) { b.c.Key = 1 << 62 },
		"a lifetime of -1":       func(b *begin) { b.c.Life = -1 },
		"too long a lifetime":    func(b *begin) { b.c.Life = 1 << 62 },
		"an idle time of -1":     func(b *begin) { b.c.Idle = -1 },
		"too long an idle time":  func(b *begin) { b.c.Idle = 1 << 62 },
		"a data limit of -1":     func(b *begin) { b.c.Data = -1 },
		"too great a limit":      func(b *begin) { b.c.Data = 1 << 62 },
		"no versions":            func(b *begin) { b.c.Versions = nil },
		"17 versions":            func(b *begin) { b.c.Versions = count(17) },
		"a version twice":        func(b *begin) { b.c.Versions = []int{1, 2, 1} },
		"the version 0 first":    func(b *begin) { b.c.Versions = []int{0, 1} },
		"the version 0 last":     func(b *begin) { b.c.Versions = []int{1, 0} },
		"2^32 among them":        func(b *begin) { b.c.Versions = []int{1, 1 << 32} },
		"21 bytes own":           func(b *begin) { b.own = bytes.Repeat([]byte("o"), 21) },
		"21 bytes of a goal":     func(b *begin) { b.goal = bytes.Repeat([]byte("g"), 21) },
		"21 bytes of a retry's":  func(b *begin) { b.again, b.retry = true, bytes.Repeat([]byte("r"), 21) },
	}
}

// count is the versions from 1 on.
func count(n int) (l []int) {
	for i := range n {
		l = append(l, i+1)
	}
	return l
}

func TestP21_1WhatMayNotBe(t *testing.T) {
	for what, change := range wrong() {
		b := plain()
		change(&b)
		if s, e := b.new(); s != nil || e != api.ErrArg {
			t.Errorf("P21.1: %s: %v, %d", what, s, e)
		}
	}
}

func TestP21_1WhatMayBe(t *testing.T) {
	for what, change := range map[string]func(b *begin){
		"as it is":                       func(b *begin) {},
		"a byte's name":                  func(b *begin) { b.c.Name = "h" },
		"50 bytes' name":                 func(b *begin) { b.c.Name = strings.Repeat("\xff", 50) },
		"zeros":                          func(b *begin) { b.c.Life, b.c.Idle, b.c.Data = 0, 0, 0 },
		"greatest numbers":               func(b *begin) { b.c.Life, b.c.Idle, b.c.Data = 1<<62-1, 1<<62-1, 1<<62-1 },
		"one version":                    func(b *begin) { b.c.Versions = []int{2} },
		"16 versions":                    func(b *begin) { b.c.Versions = append([]int{1<<32 - 1, 2}, count(16)[2:]...) },
		"a key that is a text":           func(b *begin) { b.c.Key = b.x.Text([]byte("key")) },
		"a key that is the secret":       func(b *begin) { b.c.Key = b.c.Secret },
		"20 bytes":                       func(b *begin) { b.own, b.goal = bytes.Repeat([]byte("o"), 20), bytes.Repeat([]byte("g"), 20) },
		"no bytes":                       func(b *begin) { b.own, b.goal, b.retry = nil, nil, nil },
		"behind a retry":                 func(b *begin) { b.again = true },
		"behind a retry without bytes":   func(b *begin) { b.again, b.retry = true, nil },
		"behind a retry of 20":           func(b *begin) { b.again, b.retry = true, bytes.Repeat([]byte("r"), 20) },
		"a retry that does not count":    func(b *begin) { b.retry = bytes.Repeat([]byte("r"), 21) },
		"a store without room":           func(b *begin) { b.c.Store = strike.New(0, 0) },
		"a store":                        func(b *begin) { b.c.Store = strike.New(5, 5) },
		"a table without room":           func(b *begin) {},
		"a version first that is chosen": func(b *begin) { b.c.Versions = []int{2, 9} },
	} {
		b := plain()
		change(&b)
		if what == "a table without room" {
			fill(b.x, 0)
		}
		s, e := b.new()
		if s == nil || e != api.OK {
			t.Errorf("P21.1: %s: %v, %d", what, s, e)
			continue
		}
		if what != "a table without room" {
			coming(b).goes(t, what, s)
		}
	}
}

// fill puts secrets into a table until it has room for so many terms.
func fill(x *term.Table, room int) {
	for x.Size() < 1<<16-room {
		x.Secret()
	}
}

func TestR4WhatNewIsGiven(t *testing.T) {
	b := plain()
	b.again = true
	was := b
	lists := [][]byte{b.own, b.goal, b.retry}
	for i, l := range lists {
		lists[i] = append(make([]byte, 0, 40), l...)
	}
	b.own, b.goal, b.retry = lists[0], lists[1], lists[2]
	b.c.Versions = append(make([]int, 0, 40), b.c.Versions...)
	s, e := b.new()
	if e != api.OK {
		t.Fatalf("P21.1: %d", e)
	}
	for i, want := range []string{"own name", "the goal", "re-try"} {
		if all := string(lists[i][:40]); all != want+strings.Repeat("\x00", 40-len(want)) {
			t.Errorf("R4: %q is %q now", want, all)
		}
	}
	if all := append(was.c.Versions, make([]int, 36)...); !reflect.DeepEqual(b.c.Versions[:40], all) {
		t.Errorf("R4: the versions are %v now", b.c.Versions[:40])
	}
	for _, l := range lists {
		clear(l)
	}
	clear(b.c.Versions)
	coming(was).goes(t, "R4", s)
}

// A server's talks share nothing but what they are given.
func TestR5TalksOfOneConfig(t *testing.T) {
	b := stored()
	var guests []*guest
	var talks []*server.Server
	for range 4 {
		s, _ := b.new()
		g := coming(b)
		g.takes(t, "one of many", s, g.hands(t, s, api.Initial, g.says(), g.now))
		guests, talks = append(guests, g), append(talks, s)
	}
	flights := map[api.Term]int{}
	for i, g := range guests {
		msg, step, _, _ := g.ends(200)
		if got := g.hands(t, talks[i], api.Handshake, msg, 200); !reflect.DeepEqual(got, step) {
			t.Errorf("R5: %v, not %v", got, step)
		}
		flights[talks[i].Facts().Flight]++
	}
	if len(flights) != 4 {
		t.Errorf("P21.3: %d transcripts of 4 talks", len(flights))
	}
}

func TestP21_2Nil(t *testing.T) {
	var s *server.Server
	g := coming(plain())
	for _, msg := range [][]byte{nil, {1}, g.says()} {
		if step := s.Handle(api.Initial, msg, g.peer, g.version, g.now); !reflect.DeepEqual(step, client.Step{Fail: api.ErrArg}) {
			t.Errorf("P21.2: of nil: %v", step)
		}
	}
	if f := s.Facts(); !reflect.DeepEqual(f, client.Facts{}) {
		t.Errorf("P21.2: of nil: %v", f)
	}
}
