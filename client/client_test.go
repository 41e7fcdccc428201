package client_test

import (
	"bytes"
	"reflect"
	"strings"
	"testing"

	"shibboleth/api"
	"shibboleth/client"
	"shibboleth/hello"
	"shibboleth/params"
	"shibboleth/sched"
	"shibboleth/term"
)

// The kinds of terms, by the document's numbers.
const (
	text   = 1
	secret = 2
	public = 7
	shared = 8
	signed = 9
)

// The kinds of messages, by the document's numbers.
const (
	clientHello = 1
	serverHello = 2
	ticketKind  = 4
	paramsKind  = 8
	nameKind    = 11
	proofKind   = 15
	finished    = 20
)

// begin is all that New is given.
type begin struct {
	x                *term.Table
	c                client.Config
	version          int
	own, goal, retry []byte
	again            bool
}

func (b begin) new() (*client.Client, client.Step) {
	return client.New(b.x, b.c, b.version, b.own, b.goal, b.retry, b.again)
}

// plain is what a client without a ticket is given, and the server's secret.
func plain() (begin, api.Term) {
	x := term.New()
	s := x.Secret()
	p := x.Make(public, []api.Term{s})
	c := client.Config{Name: "host", Public: p, Versions: []int{3, 1, 2}, Idle: 7, Data: 8}
	return begin{x: x, c: c, version: 1, own: []byte("own name"), goal: []byte("the goal"), retry: []byte("re-try")}, s
}

// resuming is what a client with a ticket is given, and the server's secret.
func resuming(early bool) (begin, api.Term) {
	b, s := plain()
	b.c.Ticket, b.c.Secret, b.c.Version, b.c.Early = b.x.Secret(), b.x.Text([]byte("some term")), 1, early
	return b, s
}

// refused holds that nothing but an error comes of New.
func refused(t *testing.T, what string, b begin, want api.Errno) {
	t.Helper()
	c, s := b.new()
	if c != nil || !reflect.DeepEqual(s, client.Step{Fail: want}) {
		t.Errorf("P20.1: %s: %v, %v, not %d", what, c, s, want)
	}
}

// taken holds that there is a client.
func taken(t *testing.T, what string, b begin) (*client.Client, client.Step) {
	t.Helper()
	c, s := b.new()
	if c == nil || s.Fail != api.OK {
		t.Fatalf("P20.1: %s: %v, %v", what, c, s)
	}
	return c, s
}

// wrong tells by name what may not be, each alone.
func wrong() map[string]func(b *begin) {
	return map[string]func(b *begin){
		"no table":            func(b *begin) { b.x = nil },
		"no name":             func(b *begin) { b.c.Name = "" },
		"51 bytes of a name":  func(b *begin) { b.c.Name = strings.Repeat("n", 51) },
		"no public term":      func(b *begin) { b.c.Public = 0 },
		"below 0":             func(b *begin) { b.c.Public = -b.c.Public },
		"a secret":            func(b *begin) { b.c.Public = b.x.Secret() },
		"a text":              func(b *begin) { b.c.Public = b.x.Text([]byte("p")) },
		"a row of it":         func(b *begin) { b.c.Public = b.x.Make(3, []api.Term{b.c.Public}) },
		"no such term":        func(b *begin) { b.c.Public = api.Term(b.x.Size() + 1) },
		"another version":     func(b *begin) { b.version = 4 },
		"version 0":           func(b *begin) { b.version = 0 },
		"a version below 0":   func(b *begin) { b.version = -1 },
		"no versions":         func(b *begin) { b.c.Versions = nil },
		"a version twice":     func(b *begin) { b.c.Versions = []int{1, 2, 1} },
		"17 versions":         func(b *begin) { b.c.Versions = count(17) },
		"0 among them":        func(b *begin) { b.c.Versions = []int{1, 0} },
		"0 is the one":        func(b *begin) { b.c.Versions, b.version = []int{1, 0}, 0 },
		"2^32 among them":     func(b *begin) { b.c.Versions = []int{1, 1 << 32} },
		"an idle time of -1":  func(b *begin) { b.c.Idle = -1 },
		"too much time":       func(b *begin) { b.c.Idle = 1 << 62 },
		"a data limit of -1":  func(b *begin) { b.c.Data = -1 },
		"too great a limit":   func(b *begin) { b.c.Data = 1 << 62 },
		"21 bytes own":        func(b *begin) { b.own = bytes.Repeat([]byte("o"), 21) },
		"early and no ticket": func(b *begin) { b.c.Ticket, b.c.Secret, b.c.Early = 0, 0, true },
		"early and neither ticket nor version": func(b *begin) {
			b.c.Ticket, b.c.Secret, b.c.Version, b.c.Early = 0, 0, 0, true
		},
		"a ticket alone":            func(b *begin) { b.c.Ticket, b.c.Secret = b.c.Public, 0 },
		"a ticket's secret alone":   func(b *begin) { b.c.Ticket, b.c.Secret = 0, b.c.Public },
		"a ticket that is none":     func(b *begin) { b.c.Ticket, b.c.Secret = api.Term(b.x.Size()+1), b.c.Public },
		"a ticket's that is none":   func(b *begin) { b.c.Ticket, b.c.Secret = b.c.Public, api.Term(b.x.Size()+1) },
		"a ticket below 0":          func(b *begin) { b.c.Ticket, b.c.Secret = -1, b.c.Public },
		"a ticket's secret below 0": func(b *begin) { b.c.Ticket, b.c.Secret = b.c.Public, -1 },
		"both are none":             func(b *begin) { b.c.Ticket, b.c.Secret = 1<<62, 1<<62 },
		"early and another version": func(b *begin) {
			b.c.Ticket, b.c.Secret, b.c.Version, b.c.Early = b.c.Public, b.c.Public, 2, true
		},
	}
}

// count is the versions from 1 on.
func count(n int) (l []int) {
	for i := range n {
		l = append(l, i+1)
	}
	return l
}

func TestP20_1WhatMayNotBe(t *testing.T) {
	for what, change := range wrong() {
		b, _ := plain()
		change(&b)
		refused(t, what, b, api.ErrArg)
		b, _ = resuming(true)
		change(&b)
		refused(t, what+" (with a ticket)", b, api.ErrArg)
	}
}

func TestP20_1WhatMayBe(t *testing.T) {
	for what, change := range map[string]func(b *begin){
		"as it is":         func(b *begin) {},
		"a byte's name":    func(b *begin) { b.c.Name = "h" },
		"50 bytes' name":   func(b *begin) { b.c.Name = strings.Repeat("n", 50) },
		"strange bytes":    func(b *begin) { b.c.Name = "\x00\xff" },
		"one version":      func(b *begin) { b.c.Versions = []int{1} },
		"16 versions":      func(b *begin) { b.c.Versions = count(16) },
		"greatest version": func(b *begin) { b.c.Versions, b.version, b.c.Version = []int{5, 1<<32 - 1}, 1<<32-1, 1<<32-1 },
		"the last one":     func(b *begin) { b.version, b.c.Version = 2, 2 },
		"zeros":            func(b *begin) { b.c.Idle, b.c.Data = 0, 0 },
		"greatest numbers": func(b *begin) { b.c.Idle, b.c.Data = 1<<62-1, 1<<62-1 },
		"no bytes of an own name, a goal, a retry's": func(b *begin) { b.own, b.goal, b.retry = nil, nil, nil },
		"20 bytes of an own name":                    func(b *begin) { b.own = bytes.Repeat([]byte("o"), 20) },
		"behind a retry":                             func(b *begin) { b.again = true },
		"a ticket of another version, without early data": func(b *begin) {
			if b.c.Ticket != 0 {
				b.c.Version, b.c.Early = 77, false
			}
		},
		"a ticket that is its secret": func(b *begin) { b.c.Secret = b.c.Ticket },
		"a version without a ticket": func(b *begin) {
			if b.c.Ticket == 0 {
				b.c.Version = 9
			}
		},
	} {
		b, _ := plain()
		change(&b)
		begins(t, what, b)
		for _, early := range []bool{false, true} {
			b, _ = resuming(early)
			change(&b)
			begins(t, what+" (with a ticket)", b)
		}
	}
}

// begins holds a client's first step against the document's words, and tells its hello.
func begins(t *testing.T, what string, b begin) []byte {
	t.Helper()
	size := b.x.Size()
	c, s := taken(t, what, b)
	if len(s.Out) != 1 || s.Out[0].Level != api.Initial || s.Passes != nil {
		t.Fatalf("P20.1: %s: %v", what, s)
	}
	m, e := hello.Read(s.Out[0].Data)
	if e != api.OK || m.Kind != clientHello || m.Flag != b.c.Early || m.Ticket != b.c.Ticket {
		t.Errorf("P20.1: %s: %v, %d", what, m, e)
	}
	random, _ := b.x.Look(m.Random)
	share, _ := b.x.Look(m.Share)
	if random.Kind != secret || share.Kind != public || int(m.Random) <= size || share.Parts[0] <= m.Random {
		t.Errorf("P20.1: %s: the random is %d %v, the share %d %v, of %d terms", what, m.Random, random, m.Share, share, size)
	}
	p, e := params.Read(m.Params)
	want := params.Params{Idle: b.c.Idle, Data: b.c.Data, HasOwn: true, Own: b.own, Chosen: b.version, Versions: b.c.Versions}
	if e != api.OK || !params.Same(p, want) {
		t.Errorf("P20.1: %s: its params %v, %d", what, p, e)
	}
	ticketed(t, what, b, s, m)
	if f := c.Facts(); !reflect.DeepEqual(f, client.Facts{}) {
		t.Errorf("P20.2: %s: facts ahead of an answer: %v", what, f)
	}
	return s.Out[0].Data
}

// ticketed holds what hangs on a ticket: the mac, and the key of the level 1.
func ticketed(t *testing.T, what string, b begin, s client.Step, m hello.Msg) {
	t.Helper()
	msg := s.Out[0].Data
	early := sched.Early(b.x, b.c.Secret)
	short := sched.Next(b.x, sched.Begin(b.x), msg[:len(msg)-4])
	if b.c.Ticket != 0 && m.Mac != sched.Binder(b.x, early, short) {
		t.Errorf("P20.1: %s: the mac %d is not the ticket's", what, m.Mac)
	}
	var keys []client.Keys
	if b.c.Early {
		traffic := sched.EarlyTraffic(b.x, early, sched.Next(b.x, sched.Begin(b.x), msg))
		keys = []client.Keys{{Level: api.Early, Write: traffic}}
	}
	if !reflect.DeepEqual(s.Keys, keys) {
		t.Errorf("P20.1: %s: the keys %v, not %v", what, s.Keys, keys)
	}
}

// Each hello has a random and a share of its own.
func TestP20_1EachHelloIsNew(t *testing.T) {
	b, _ := plain()
	used := map[api.Term]int{}
	for range 20 {
		m, _ := hello.Read(begins(t, "again", b))
		share, _ := b.x.Look(m.Share)
		used[m.Random]++
		used[share.Parts[0]]++
	}
	if len(used) != 40 {
		t.Errorf("P20.1: of 20 hellos %d secrets", len(used))
	}
}

// fill puts secrets into a table until it has room for so many terms.
func fill(x *term.Table, room int) {
	for x.Size() < 1<<16-room {
		x.Secret()
	}
}

// room tells how many terms a call needs, of tables that are all alike.
func room(make func() *term.Table, call func()) int {
	x := make()
	size := x.Size()
	call()
	return x.Size() - size
}

func TestP20_1NoRoom(t *testing.T) {
	for _, how := range []func() (begin, api.Term){
		plain,
		func() (begin, api.Term) { return resuming(false) },
		func() (begin, api.Term) { return resuming(true) },
	} {
		var b begin
		needed := room(func() *term.Table { b, _ = how(); return b.x }, func() { b.new() })
		if needed < 5 {
			t.Fatalf("P20.1: a hello of %d terms", needed)
		}
		for n := range needed {
			b, _ = how()
			fill(b.x, n)
			refused(t, "too little room", b, api.ErrFull)
		}
		b, _ = how()
		fill(b.x, needed)
		taken(t, "just enough room", b)
	}
}

func TestP20_1WhatMayNotBeWithoutRoom(t *testing.T) {
	for what, change := range wrong() {
		b, _ := plain()
		change(&b)
		if b.x != nil {
			fill(b.x, 0)
		}
		if what == "no such term" || what == "a ticket that is none" || what == "a ticket's that is none" {
			continue // there is each term now
		}
		refused(t, what+", and no room", b, api.ErrArg)
	}
}

func TestR4WhatNewIsGiven(t *testing.T) {
	b, s := resuming(true)
	b.again = true
	lists := [][]byte{b.own, b.goal, b.retry}
	for i, l := range lists {
		lists[i] = append(make([]byte, 0, 40), l...)
	}
	b.own, b.goal, b.retry = lists[0], lists[1], lists[2]
	b.c.Versions = append(make([]int, 0, 40), b.c.Versions...)
	was := client.Config{Versions: append([]int{}, b.c.Versions[:40]...)}
	c, step := taken(t, "a client", b)
	for i, want := range []string{"own name", "the goal", "re-try"} {
		if all := string(lists[i][:40]); all != want+strings.Repeat("\x00", 40-len(want)) {
			t.Errorf("R4: %q is %q now", want, all)
		}
	}
	if !reflect.DeepEqual(b.c.Versions[:40], was.Versions) {
		t.Errorf("R4: the versions are %v now", b.c.Versions[:40])
	}
	// What becomes of it behind the call changes nothing.
	h := answering(b, s)
	h.answer(step.Out[0].Data)
	for _, l := range lists {
		clear(l)
	}
	clear(b.c.Versions)
	h.goes(t, c)
}
