package sched_test

import (
	"slices"
	"strings"
	"testing"

	"shibboleth/api"
	"shibboleth/sched"
	"shibboleth/term"
)

// The kinds of terms, by the document's numbers.
const (
	text    = 1
	row     = 3
	hash    = 4
	mac     = 5
	derived = 6
	public  = 7
	shared  = 8
	signed  = 9
	sealed  = 10
)

// long is one byte more than a text may have.
var long = strings.Repeat("l", 2049)

// strange are numbers that no term of a table of size terms has.
func strange(size int) []api.Term {
	return []api.Term{-1 << 63, -1, 0, api.Term(size + 1), 1 << 16, 1<<16 + 1, 1 << 32, 1<<63 - 1}
}

// nearlyFull is a table that has room for so many terms; its first one is a secret, its second one the empty text, the others are secrets.
func nearlyFull(room int) *term.Table {
	x := term.New()
	x.Secret()
	x.Text(nil)
	fill(x, room)
	return x
}

// fill puts secrets into a table until it has room for so many terms.
func fill(x *term.Table, room int) {
	for x.Size() < 1<<16-room {
		x.Secret()
	}
}

// is holds the term of a number against what it has to be.
func is(t *testing.T, x *term.Table, h api.Term, kind int, bytes string, parts ...api.Term) {
	t.Helper()
	n, there := x.Look(h)
	if !there || n.Kind != kind || n.Text != bytes || !slices.Equal(n.Parts, parts) {
		t.Errorf("P15.1: the term %d: %v, %t, not %d %q %v", h, n, there, kind, bytes, parts)
	}
}

// each is a term of each kind, two secrets ahead.
func each(x *term.Table) []api.Term {
	a, b := x.Secret(), x.Secret()
	said := x.Text([]byte("said"))
	p := x.Make(public, []api.Term{b})
	return []api.Term{
		a, b, said, x.Text(nil), p,
		x.Make(row, []api.Term{a, said}), x.Make(row, nil), x.Make(hash, []api.Term{said}), x.Make(mac, []api.Term{a, b}),
		x.Make(derived, []api.Term{a, said, b}), x.Make(shared, []api.Term{a, p}), x.Make(signed, []api.Term{a, said}), x.Make(sealed, []api.Term{b, said, a}),
	}
}

// derive is the derived one in the document's words.
func derive(x *term.Table, secret api.Term, label string, context api.Term) api.Term {
	return x.Make(derived, []api.Term{secret, x.Text([]byte(label)), context})
}

// plain is the derived one with the empty text as its context.
func plain(x *term.Table, secret api.Term, label string) api.Term {
	return derive(x, secret, label, x.Text(nil))
}

// rule is a call of a secret (or what stands for it) and another term, and the document's words of what it tells.
type rule struct {
	name        string
	call, words func(x *term.Table, a, b api.Term) []api.Term
	alone       bool // the other term does not count
}

// list is a list of terms.
func list(l ...api.Term) []api.Term {
	return l
}

// pair is a list of what tells two terms.
func pair(call func(x *term.Table, a, b api.Term) (api.Term, api.Term)) func(x *term.Table, a, b api.Term) []api.Term {
	return func(x *term.Table, a, b api.Term) []api.Term {
		one, other := call(x, a, b)
		return list(one, other)
	}
}

// single is a list of what tells one term.
func single(call func(x *term.Table, a, b api.Term) api.Term) func(x *term.Table, a, b api.Term) []api.Term {
	return func(x *term.Table, a, b api.Term) []api.Term { return list(call(x, a, b)) }
}

// without is a call that does not ask for the other term.
func without(call func(x *term.Table, a api.Term) api.Term) func(x *term.Table, a, b api.Term) []api.Term {
	return func(x *term.Table, a, _ api.Term) []api.Term { return list(call(x, a)) }
}

// rules are all calls that tell terms of two terms or of one.
func rules() []rule {
	row2 := func(x *term.Table, a, b api.Term) api.Term { return x.Make(row, list(a, b)) }
	keyed := func(label string) func(x *term.Table, a, b api.Term) []api.Term {
		return func(x *term.Table, a, b api.Term) []api.Term {
			return list(x.Make(mac, list(plain(x, a, label), b)))
		}
	}
	at := func(labels ...string) func(x *term.Table, a, b api.Term) []api.Term {
		return func(x *term.Table, a, b api.Term) (l []api.Term) {
			for _, label := range labels {
				l = append(l, derive(x, a, label, b))
			}
			return l
		}
	}
	return []rule{
		{"EarlyTraffic", single(sched.EarlyTraffic), at("client early"), false},
		{"Shaken", single(sched.Shaken), func(x *term.Table, a, b api.Term) []api.Term {
			return list(plain(x, row2(x, a, b), "handshake"))
		}, false},
		{"ShakenTraffic", pair(sched.ShakenTraffic), at("client hs", "server hs"), false},
		{"Main", without(sched.Main), func(x *term.Table, a, _ api.Term) []api.Term { return list(plain(x, a, "main")) }, true},
		{"MainTraffic", pair(sched.MainTraffic), at("client app", "server app"), false},
		{"Resume", single(sched.Resume), at("resume"), false},
		{"Finished", single(sched.Finished), keyed("finished"), false},
		{"Binder", single(sched.Binder), keyed("binder"), false},
		{"Signed", without(sched.Signed), func(x *term.Table, a, _ api.Term) []api.Term {
			return list(row2(x, x.Text([]byte("server proof")), a))
		}, true},
		{"Next", single(func(x *term.Table, a, _ api.Term) api.Term { return sched.Next(x, a, []byte("message")) }), func(x *term.Table, a, _ api.Term) []api.Term {
			return list(x.Make(hash, list(row2(x, a, x.Text([]byte("message"))))))
		}, true},
	}
}

// fixed are the calls that may be handed no term at all; what they are handed here is left as it is.
func fixed() []rule {
	return []rule{
		{"Begin", single(func(x *term.Table, _, _ api.Term) api.Term { return sched.Begin(x) }), func(x *term.Table, _, _ api.Term) []api.Term {
			return list(x.Text(nil))
		}, true},
		{"First", pair(func(x *term.Table, _, _ api.Term) (api.Term, api.Term) { return sched.First(x, []byte("goal")) }), func(x *term.Table, _, _ api.Term) []api.Term {
			goal := x.Text([]byte("goal"))
			return list(plain(x, goal, "client in"), plain(x, goal, "server in"))
		}, true},
		{"Early of none", single(func(x *term.Table, _, _ api.Term) api.Term { return sched.Early(x, 0) }), func(x *term.Table, _, _ api.Term) []api.Term {
			return list(plain(x, x.Text([]byte("none")), "early"))
		}, true},
		{"Early", without(sched.Early), func(x *term.Table, a, _ api.Term) []api.Term { return list(plain(x, a, "early")) }, true},
	}
}

// tells holds what a call tells of two terms against the document's words.
func tells(t *testing.T, x *term.Table, r rule, a, b api.Term) {
	t.Helper()
	got := r.call(x, a, b)
	size := x.Size()
	want := r.words(x, a, b)
	if !slices.Equal(got, want) || slices.Contains(got, 0) || x.Size() != size {
		t.Errorf("P15.1: %s of %d and %d: %d, not %d, with %d more terms", r.name, a, b, got, want, x.Size()-size)
	}
	if again := r.call(x, a, b); !slices.Equal(again, got) || x.Size() != size {
		t.Errorf("P15.1: %s of %d and %d again: %d, not %d, with %d more terms", r.name, a, b, again, got, x.Size()-size)
	}
}

// refuses holds that a call tells 0s.
func refuses(t *testing.T, x *term.Table, r rule, a, b api.Term) {
	t.Helper()
	for _, h := range r.call(x, a, b) {
		if h != 0 {
			t.Errorf("P15.1: %s of %d and %d: %d", r.name, a, b, h)
		}
	}
}

func TestP15_1AsTheTableSays(t *testing.T) {
	for _, r := range append(rules(), fixed()...) {
		x := term.New()
		own := each(x)
		for _, a := range own {
			for _, b := range own {
				tells(t, x, r, a, b)
			}
		}
	}
}

func TestP15_1ExampleOfTheChapter(t *testing.T) {
	x := term.New()
	is(t, x, sched.Begin(x), text, "")
	if x.Size() != 1 || sched.Begin(x) != x.Text(nil) {
		t.Errorf("P15.1: Begin makes %d terms", x.Size())
	}
}

func TestP15_1Transcripts(t *testing.T) {
	x := term.New()
	at := sched.Begin(x)
	for _, msg := range []string{"hello", "", "hello", "", "", "\x00\xff\xfe", long[1:], "hello"} {
		was := at
		at = sched.Next(x, at, []byte(msg))
		size := x.Size()
		is(t, x, at, hash, "", x.Make(row, list(was, x.Text([]byte(msg)))))
		if x.Size() != size || at <= was {
			t.Errorf("P15.1: behind %d and %q: %d", was, msg, at)
		}
	}
	if a, b := sched.Next(x, at, nil), sched.Next(x, at, []byte{}); a != b || a == at {
		t.Errorf("P15.1: behind an empty message: %d, %d", a, b)
	}
}

func TestP15_1OneTranscriptEachWord(t *testing.T) {
	x := term.New()
	empty := sched.Begin(x)
	one := sched.Next(x, empty, []byte("one"))
	is(t, x, 2, text, "one")
	is(t, x, 3, row, "", 1, 2)
	is(t, x, one, hash, "", 3)
	two := sched.Next(x, one, []byte("two"))
	is(t, x, 5, text, "two")
	is(t, x, 6, row, "", 4, 5)
	is(t, x, two, hash, "", 6)
	if one != 4 || two != 7 {
		t.Errorf("P15.1: the transcripts are %d, %d", one, two)
	}
}

func TestP15_1OneTalkEachWord(t *testing.T) {
	x := term.New()
	a, b := x.Secret(), x.Secret()
	both := x.Make(shared, list(a, x.Make(public, list(b))))
	tr := sched.Next(x, sched.Begin(x), []byte("hello"))
	none := x.Text(nil)
	said := func(s string) api.Term { return x.Text([]byte(s)) }
	c, s := sched.First(x, []byte("goal"))
	is(t, x, c, derived, "", said("goal"), said("client in"), none)
	is(t, x, s, derived, "", said("goal"), said("server in"), none)
	early := sched.Early(x, 0)
	is(t, x, early, derived, "", said("none"), said("early"), none)
	is(t, x, sched.Early(x, a), derived, "", a, said("early"), none)
	is(t, x, sched.EarlyTraffic(x, early, tr), derived, "", early, said("client early"), tr)
	shaken := sched.Shaken(x, early, both)
	is(t, x, shaken, derived, "", x.Make(row, list(early, both)), said("handshake"), none)
	c, s = sched.ShakenTraffic(x, shaken, tr)
	is(t, x, c, derived, "", shaken, said("client hs"), tr)
	is(t, x, s, derived, "", shaken, said("server hs"), tr)
	is(t, x, sched.Finished(x, c, tr), mac, "", x.Make(derived, list(c, said("finished"), none)), tr)
	is(t, x, sched.Finished(x, s, tr), mac, "", x.Make(derived, list(s, said("finished"), none)), tr)
	is(t, x, sched.Binder(x, early, tr), mac, "", x.Make(derived, list(early, said("binder"), none)), tr)
	is(t, x, sched.Signed(x, tr), row, "", said("server proof"), tr)
	main := sched.Main(x, shaken)
	is(t, x, main, derived, "", shaken, said("main"), none)
	c, s = sched.MainTraffic(x, main, tr)
	is(t, x, c, derived, "", main, said("client app"), tr)
	is(t, x, s, derived, "", main, said("server app"), tr)
	is(t, x, sched.Resume(x, main, tr), derived, "", main, said("resume"), tr)
}

// The transcript behind no message is the empty text, which is a term as others are: what hangs on it is not what hangs on none.
func TestP15_1TranscriptBehindNoMessage(t *testing.T) {
	for _, r := range rules() {
		if r.alone {
			continue
		}
		x := term.New()
		a := x.Secret()
		tells(t, x, r, a, sched.Begin(x))
		refuses(t, x, r, a, 0)
	}
}

func TestP15_1FirstOfGoals(t *testing.T) {
	x := term.New()
	for _, goal := range []string{"", "\x00", "goal", "eight...", long[1:]} {
		c, s := sched.First(x, []byte(goal))
		if h := x.Text([]byte(goal)); c != plain(x, h, "client in") || s != plain(x, h, "server in") || c == s || c == 0 {
			t.Errorf("P15.1: First of %.20q: %d, %d", goal, c, s)
		}
	}
	a, b := sched.First(x, nil)
	if c, d := sched.First(x, []byte{}); a != c || b != d {
		t.Errorf("P15.1: First of nothing: %d, %d, not %d, %d", a, b, c, d)
	}
	if c, s := sched.First(x, []byte(long)); c != 0 || s != 0 {
		t.Errorf("P15.1: First of too long a goal: %d, %d", c, s)
	}
}

func TestP15_1EarlyOfTickets(t *testing.T) {
	x := term.New()
	none := sched.Early(x, 0)
	a, b := x.Secret(), x.Secret()
	if l := list(none, sched.Early(x, a), sched.Early(x, b)); l[0] == l[1] || l[0] == l[2] || l[1] == l[2] || slices.Contains(l, 0) {
		t.Errorf("P15.1: Early of no ticket and of two tickets: %d", l)
	}
	if sched.Early(x, x.Text([]byte("none"))) != none {
		t.Error("P15.1: Early of no ticket is not that of the text none")
	}
	for _, h := range strange(x.Size()) {
		if h != 0 && sched.Early(x, h) != 0 {
			t.Errorf("P15.1: Early of %d", h)
		}
	}
}

func TestP15_1NoTerms(t *testing.T) {
	for _, r := range rules() {
		x := term.New()
		own := each(x)
		r.call(x, own[0], own[1]) // what it makes in between is there
		for _, h := range strange(x.Size() + 10) {
			refuses(t, x, r, h, own[0])
			refuses(t, x, r, h, own[3])
			refuses(t, x, r, h, h)
			if !r.alone {
				refuses(t, x, r, own[0], h)
			}
		}
		// A number that has no term yet is none.
		refuses(t, x, r, api.Term(x.Size()+1), own[0])
		tells(t, x, r, own[0], own[0])
	}
}

func TestP15_1NextOfWrong(t *testing.T) {
	x := term.New()
	at := sched.Begin(x)
	for _, msg := range []string{long, long + long} {
		if h := sched.Next(x, at, []byte(msg)); h != 0 {
			t.Errorf("P15.1: behind a message of %d bytes: %d", len(msg), h)
		}
	}
	for _, msg := range []string{"", "message", long[1:]} {
		for _, h := range strange(x.Size() + 10) {
			if next := sched.Next(x, h, []byte(msg)); next != 0 {
				t.Errorf("P15.1: behind %d: %d", h, next)
			}
		}
	}
}

func TestP15_1NoTable(t *testing.T) {
	for _, r := range append(rules(), fixed()...) {
		for _, h := range strange(1) {
			refuses(t, nil, r, h, h)
			refuses(t, nil, r, 1, h)
			refuses(t, nil, r, h, 1)
		}
	}
	for _, h := range append(strange(1), 1) {
		if sched.Finishes(nil, h, h, h) || sched.Binds(nil, h, h, h) {
			t.Errorf("P15.1: without a table %d is a mac", h)
		}
	}
}

func TestP15_1FullTable(t *testing.T) {
	for _, r := range append(rules(), fixed()...) {
		x := nearlyFull(20)
		size := x.Size()
		want := r.words(x, 1, 2)
		for room := range x.Size() - size {
			y := nearlyFull(room)
			got := r.call(y, 1, 2)
			if got[len(got)-1] != 0 || len(got) > 1 && got[0] != 0 && got[0] != r.words(y, 1, 2)[0] {
				t.Errorf("P15.1: %s with room for %d: %d", r.name, room, got)
			}
		}
		y := nearlyFull(x.Size() - size)
		if got := r.call(y, 1, 2); slices.Contains(got, 0) || !slices.Equal(got, r.words(y, 1, 2)) || y.Size() != 1<<16 {
			t.Errorf("P15.1: %s with just enough room: %d, and %d terms", r.name, got, y.Size())
		}
		// What is there already needs no room.
		fill(x, 0)
		if got := r.call(x, 1, 2); !slices.Equal(got, want) || x.Size() != 1<<16 {
			t.Errorf("P15.1: %s in a full table that has it: %d, not %d", r.name, got, want)
		}
	}
}

func TestP15_1NoEmptyTextAndNoRoom(t *testing.T) {
	x := term.New()
	fill(x, 0)
	for _, r := range append(rules(), fixed()...) {
		refuses(t, x, r, 1, 2)
	}
	y := term.New()
	fill(y, 1)
	if h := sched.Begin(y); h != 1<<16 || sched.Begin(y) != h {
		t.Errorf("P15.1: the last term, the transcript behind no message: %d", h)
	}
}

// R4: nor is what is behind a list's end touched.
func TestR4ArgumentsStay(t *testing.T) {
	x := term.New()
	b := []byte("message....")
	next := sched.Next(x, sched.Begin(x), b[:7])
	c, s := sched.First(x, b[:7])
	if string(b) != "message...." {
		t.Errorf("R4: Next or First made %q", b)
	}
	clear(b)
	d, e := sched.First(x, []byte("message"))
	if sched.Next(x, sched.Begin(x), []byte("message")) != next || c != d || s != e {
		t.Error("R4: a message or a goal is kept")
	}
}
