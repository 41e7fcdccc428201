package shell_test

import (
	"bytes"
	"fmt"
	"strings"
	"testing"

	"shibboleth/api"
	"shibboleth/frame"
	"shibboleth/header"
	"shibboleth/ideal"
	"shibboleth/shell"
)

// The document's ten examples of the whole, and the chapter's.
func TestP26_1Examples(t *testing.T) {
	s := shell.New()
	tells(t, s, "serve 21 1 9 9 9", "ok\n")
	tells(t, s, "dial 1 12 0 0 0", "ok\n")
	for range 9 {
		tells(t, s, "round", "ok\n")
	}
	tells(t, s, "lines", "c1 s1 v1 sent 0 took 0 done\ns1 t1 v1 sent 0 took 0 done\n")
	told := s.Line("send 1")
	var h int
	if n, _ := fmt.Sscanf(told, "ok %d\n", &h); n != 1 || h <= 0 || told != fmt.Sprintf("ok %d\n", h) {
		t.Fatalf("P26.1: send 1 tells %q", told)
	}
	can := fmt.Sprintf("can %d", h)
	tells(t, s, "round", "ok\n")
	tells(t, s, can, "no\n")
	tells(t, s, "broken", "ok\n")
	if b := s.Line("letter 1"); !strings.HasPrefix(b, "c3000000020867") || len(b) != 2*1000+1 {
		t.Errorf("P26.1: letter 1 tells %d bytes: %.20s", len(b), b)
	}
	tells(t, s, "leak 1 2", "ok\n")
	tells(t, s, can, "yes\n")
	tells(t, s, "broken", "secret\n")
	tells(t, s, "make 4 1 0 0", "ok\n")

	s = shell.New()
	all(s, "serve 1 0 9 9 9", "dial 1 1 0 0 0")
	all(s, times("round", 6)...)
	tells(t, s, "lines", "c1 s1 v1 sent 0 took 0 done\ns1 t1 v1 sent 0 took 0 done\n")
}

// A new shell has an empty world, of its own.
func TestP26_1New(t *testing.T) {
	other := served()
	s := shell.New()
	tells(t, s, "now", "0 0\n")
	tells(t, s, "lines", "ok\n")
	tells(t, s, "broken", "ok\n")
	tells(t, s, "letter 1", "error 17\n")
	tells(t, s, "can 1", "no\n")
	tells(t, s, "make 2 0 0 0", "ok 1\n")
	was := asked(other)
	all(s, "serve 1 0 9 9 9", "dial 1 1 0 0 0", "round", "tick 5", "leak 1 0")
	if asked(other) != was {
		t.Error("P26.1: what is done at one shell changes another one")
	}
}

// Each act does what layer 24's does of the same numbers.
func TestP26_1Acts(t *testing.T) {
	const serve, dial, send, reply, lead, update, end, leak = 0, 1, 2, 3, 6, 8, 9, 10
	x := newTwin(t)
	x.act(serve, 21, 1, 5, 2, 7)
	x.act(serve, 3, 0, 0, 9, 30)
	x.act(serve, 0, 1, 1, 1, 1) // has no version: it is none
	x.act(dial, 1, 12, 0, 0, 0)
	x.act(dial, 1, 12, 1, 0, 0)
	x.act(dial, 2, 3, 4, 0, 0)
	x.act(dial, 5, 1, 0, 0, 0)
	x.same()
	for range 4 {
		x.act(poll)
		for n := range 6 {
			x.act(come, max(0, x.w.Datagrams()-n))
		}
		x.act(tick, 0)
	}
	for range 6 {
		x.round()
	}
	x.same()
	for _, l := range [][]int{{1}, {2}, {3}, {4}, {0}} {
		x.act(send, l...)
		x.act(reply, l[0], 1)
		x.act(reply, 1, l[0])
	}
	x.round()
	x.act(update, 1, 0)
	x.act(update, 1, 2)
	x.act(update, 2, 0)
	x.act(send, 1)
	x.act(reply, 1, 2)
	x.round()
	x.same()
	x.act(dial, 2, 3, 0, 3, 1) // with a ticket, and early data
	x.act(send, 4)
	x.act(poll)
	x.act(lead, x.w.Datagrams(), 2, 77)
	x.act(lead, 1, 2, 3)
	x.act(tick, 6)
	x.round()
	x.round()
	x.same()
	x.act(makes, 2, 0, 0, 0)
	x.act(makes, 3, x.w.Table().Size(), 1, 1)
	x.act(makes, 10, x.w.Table().Size(), x.w.Table().Size()-1, x.w.Table().Size())
	x.act(end, 1, 30, 0)
	x.act(end, 1, 31, 1)
	for who := range 5 {
		for what := range 5 {
			x.act(leak, who, what)
			x.same()
		}
	}
	x.round()
	x.same()
	if s := x.s.Line("lines"); !strings.Contains(s, "c4 s2 v3 sent 1 took 0 done") || strings.Count(s, "closed") != 4 {
		t.Errorf("P26.1: the acts come to %s", s)
	}
}

// A line whose act does nothing tells that it is done.
func TestP26_1ActsThatDoNothing(t *testing.T) {
	x := newTwin(t)
	for what, a := range acts {
		for _, n := range []int{999999999, 99999, 1001} {
			l := make([]int, a.many)
			for i := range l {
				l[i] = n
			}
			if what != 0 {
				x.act(what, l...)
			}
		}
	}
	x.same()
	tells(t, x.s, "now", "0 0\n")
	tells(t, x.s, "tick 1000", "ok\n")
	tells(t, x.s, "now", "1000 0\n")
}

func TestP26_1Text(t *testing.T) {
	x := newTwin(t)
	for _, w := range []string{
		"a", "abc", "0", "1", "text", "#", "#a", "-1", "00", "error", "\x00", "\xff\xfe", "é", "\u00a0", "\u2028", "\v", "\f\x85",
		"abc", strings.Repeat("x", 2048), strings.Repeat("x", 2049), strings.Repeat("x", 70000), "last",
	} {
		x.text([]byte(w))
	}
	x.same()
	tells(t, x.s, "text abc", "ok 2\n")
	tells(t, x.s, "text "+strings.Repeat("x", 2049), "ok\n")
	tells(t, x.s, "make 1 0 0 0", fmt.Sprintf("ok %d\n", x.w.Table().Size()+1)) // the empty text
}

func TestP26_1Hand(t *testing.T) {
	x := newTwin(t)
	x.act(0, 1, 0, 9, 9, 9)
	x.act(1, 1, 1, 0, 0, 0)
	x.act(1, 1, 1, 0, 0, 0)
	x.act(poll)
	x.hand(1, 0, 1, x.w.Letter(1)) // what goes by hand may be a datagram that he has heard
	x.same()
	x.hand(1, 0, 2, x.w.Letter(2))
	x.hand(2, 0, 1, x.w.Letter(1))
	x.hand(1, 0, 3, x.w.Letter(1)[:50])
	x.act(poll)
	x.same()
	if n := x.w.Datagrams(); n < 4 || len(x.w.Peers(1)) != 2 {
		t.Fatalf("P26.1: by hand nothing comes: %d datagrams", n)
	}
	for n := 3; n <= x.w.Datagrams(); n++ {
		x.hand(1, 1, 0, x.w.Letter(n))
		x.hand(2, 7, 0, x.w.Letter(n))
		x.hand(1, 0, 9, x.w.Letter(n))
	}
	for n := range 256 {
		x.hand(1, n%2, 1, []byte{byte(n), byte(255 - n), 0})
	}
	for range 5 {
		x.round()
	}
	x.same()
	if s := x.s.Line("lines"); strings.Count(s, "done") != 4 {
		t.Errorf("P26.1: by hand it comes to %s", s)
	}
}

func TestP26_1HandOfNoPairs(t *testing.T) {
	s := served()
	was := asked(s)
	for _, h := range []string{"0", "000", "0g", "g0", "0A", "A0", "FF", "0F", "0x00", "0x", "-1", "+1", " 00", "00 00", "0_", "/0", ":0", "`0", "0/", "0:", "0`", "\x0000", "é", "00é", "..", "", "ab\x00"} {
		want := "error 16\n"
		if h == " 00" {
			want = "ok\n" // the blank is one more between two words
		}
		tells(t, s, "hand 1 0 1 "+h, want)
	}
	tells(t, s, "hand 1 0 0123456789abcdef", "error 16\n")
	tells(t, s, "hand 1 0 x 00", "error 16\n")
	tells(t, s, "hand 1 0 1 0123456789abcdef", "ok\n")
	if asked(s) != was {
		t.Error("P26.1: bytes that are none do something")
	}
}

// In a round comes what is sent in it, each once, in order; what was sent ahead of it does not.
func TestP26_1Round(t *testing.T) {
	x := newTwin(t)
	x.act(0, 1, 1, 9, 9, 9)
	x.act(1, 1, 1, 0, 0, 0)
	x.act(poll)
	x.act(1, 1, 1, 0, 0, 0)
	x.act(tick, 5)
	for range 12 {
		x.round()
		x.same()
	}
	x.act(2, 1)
	x.act(2, 2)
	x.act(2, 1)
	x.act(3, 1, 1)
	x.act(poll) // is lost, and is due again at the end of the next round
	x.round()
	x.same()
	if s := x.s.Line("lines"); strings.Contains(s, "took 1") || strings.Contains(s, "took 2") {
		t.Errorf("P26.1: in a round comes what was sent ahead of it: %s", s)
	}
	x.round()
	x.same()
	if s := x.s.Line("lines"); s != "c1 s1 v1 sent 2 took 1 done\nc2 s1 v1 sent 1 took 0 done\ns1 t1 v1 sent 1 took 2 done\ns1 t2 v1 sent 0 took 1 done\n" {
		t.Errorf("P26.1: behind a second round: %s", s)
	}
	if s := x.s.Line("now"); !strings.HasPrefix(s, "5 ") {
		t.Errorf("P26.1: rounds change the time: %s", s)
	}
}

// forged is a packet of the level 3 to the server's first side, with data that he makes, under a secret that he knows: all of it made by lines.
func forged(x *twin, write api.Term) []byte {
	x.t.Helper()
	var own api.Term
	var body []byte
	for body == nil || bytes.ContainsAny(body, " \t\r\n") { // of such bytes no line makes a text
		own = x.act(makes, 2, 0, 0, 0)
		body, _ = frame.Write([]frame.Frame{{Kind: 8, Count: 5, Term: own}})
	}
	h := header.Header{Kind: api.App, To: []byte{0, 0, 0, 0, 0, 0, 0, 1}, Number: 0x555, Width: 4}
	head := header.Write(h, 16+len(body))
	bound := x.text(append(bytes.Clone(head), 0, 0, 0, 0, 0, 0, 5, 0x55))
	content := x.act(makes, 3, int(x.text(body)), int(own), 0)
	key := x.act(makes, 6, int(write), int(x.text([]byte("key"))), int(x.act(makes, 1, 0, 0, 0)))
	sealed := x.act(makes, 10, int(key), int(bound), int(content))
	return append(head, ideal.Wrap(sealed, len(body))...)
}

// What is broken stands one a line: here he makes data under a client's secrets that he has learnt.
func TestP26_1Broken(t *testing.T) {
	x := newTwin(t)
	x.act(0, 1, 0, 9, 9, 9)
	x.act(1, 1, 1, 0, 0, 0)
	for range 6 {
		x.round()
	}
	x.act(2, 1)
	x.round()
	x.act(10, 1, 2)
	tells(t, x.s, "broken", "secret\n")
	x.hand(1, 0, 1, forged(x, x.w.Clients()[0].Talk.Facts().Client))
	tells(t, x.s, "broken", "secret\nhonest\n")
	tells(t, x.s, "lines", "c1 s1 v1 sent 1 took 0 done\ns1 t1 v1 sent 0 took 2 done\n")
	x.same()
}
