package shell_test

import (
	"fmt"
	"math/rand/v2"
	"regexp"
	"strings"
	"testing"

	"shibboleth/api"
	"shibboleth/shell"
)

// play is a twin for which lines are thought out by chance.
type play struct {
	*twin
	r     *rand.Rand
	leaks bool // may he learn secrets?
}

func newPlay(t *testing.T, seed int, leaks bool) *play {
	p := &play{newTwin(t), rand.New(rand.NewPCG(26, uint64(seed))), leaks}
	for range 1 + p.r.IntN(2) {
		p.act(0, p.one(1, 12, 21, 312), p.r.IntN(2), p.one(0, 3, 9, 90), p.r.IntN(5), p.one(0, 5, 90))
	}
	p.dials()
	p.dials()
	return p
}

// one tells one of those numbers.
func (p *play) one(l ...int) int { return l[p.r.IntN(len(l))] }

// any tells a number from 1 to n, seldom one beside.
func (p *play) any(n int) int {
	if p.r.IntN(40) == 0 {
		return p.one(0, n+1, n+70)
	}
	return 1 + p.r.IntN(max(n, 1))
}

func (p *play) client() int { return p.any(len(p.w.Clients())) }

func (p *play) term() int { return p.any(p.w.Table().Size()) }

// late tells a datagram, mostly one of the last ones.
func (p *play) late() int {
	if p.r.IntN(4) == 0 {
		return p.any(p.w.Datagrams())
	}
	return max(1, p.w.Datagrams()-p.r.IntN(5))
}

func (p *play) dials() {
	p.act(1, p.any(p.w.Servers()), p.one(1, 12, 21, 13, 31), p.r.IntN(3), p.r.IntN(len(p.w.Clients())+1), p.one(0, 1, 1, 2))
}

// acts lets one thing be done.
func (p *play) acts() {
	s := p.any(p.w.Servers())
	side := p.any(len(p.w.Peers(s)))
	switch n := p.r.IntN(100); {
	case n < 2:
		p.dials()
	case n < 8:
		p.act(2, p.client())
	case n < 13:
		p.act(3, s, side)
	case n < 25:
		p.act(poll)
	case n < 45:
		p.act(come, p.late())
	case n < 60:
		p.round()
	case n < 66:
		p.act(6, p.late(), s, p.r.IntN(9))
	case n < 74:
		p.act(tick, p.one(0, 0, 0, 1, 2, 7))
	case n < 80:
		p.act(8, p.one(p.client(), s), p.one(0, side))
	case n < 81:
		if p.r.IntN(4) == 0 {
			p.act(9, p.one(p.client(), s), p.r.IntN(50), p.one(0, side))
		}
	case n < 82 && p.leaks:
		p.act(10, p.client(), p.r.IntN(5))
	case n < 90:
		p.act(makes, p.r.IntN(12), p.term(), p.term(), p.term())
	case n < 92:
		p.text([]byte(fmt.Sprint(p.r.IntN(9))))
	default:
		p.alters()
	}
}

// alters lets a datagram come by hand that is mostly another one in one byte.
func (p *play) alters() {
	b := p.w.Letter(p.late())
	if len(b) == 0 {
		return
	}
	if p.r.IntN(4) > 0 {
		b[p.r.IntN(min(len(b), p.one(40, 2000)))] ^= byte(1 + p.r.IntN(255))
	}
	p.hand(p.client(), p.r.IntN(2), p.r.IntN(9), b)
}

// Whatever is done, the shell is the world; and THE THEOREMS hold of it (P1 to P4): where he learns no secret nothing is broken; where he does, two of them are not.
func TestP26_1Plays(t *testing.T) {
	for seed := range 40 {
		p := newPlay(t, seed, seed%2 == 0)
		for i := range 400 {
			p.acts()
			if i%100 == 99 {
				p.same()
			}
		}
		if b := p.s.Line("broken"); !p.leaks && b != "ok\n" || strings.Contains(b, "unique") || strings.Contains(b, "early") {
			t.Errorf("P25.2: the play %d: %s", seed, b)
		}
		if t.Failed() {
			t.Fatalf("P26.1: the play %d", seed)
		}
	}
}

// script is a play's lines by chance, those that are none among them.
func script(r *rand.Rand, many int) []string {
	l := []string{"serve 21 1 9 9 9", "serve 1 0 9 9 9", "dial 2 1 0 0 0", "dial 1 12 0 0 0"}
	for range many {
		switch n := r.IntN(40); {
		case n < 16:
			l = append(l, "round")
		case n < 26:
			l = append(l, others[r.IntN(len(others))])
		case n < 27:
			l = append(l, []string{"", "foo", "# x", "tick", "tick 01", "now now", "hand 1 0 1 xx", "leak 1 x"}[r.IntN(8)])
		default:
			x := acts[r.IntN(len(acts))]
			line := x.word
			for range x.many {
				line += fmt.Sprintf(" %d", r.IntN(4))
			}
			l = append(l, line)
		}
	}
	return append(l, "lines", "broken", "now", "letter 1", "letter 9", "can 20", "can 90")
}

// ran is what the lines tell at once.
func ran(t *testing.T, l []string) string {
	t.Helper()
	told, e := shell.Run(strings.Join(l, "\n"))
	if e != api.OK {
		t.Fatalf("P26.1: %d", e)
	}
	return told
}

// Notes and blanks between words change nothing.
func TestP26_2NotesAndBlanks(t *testing.T) {
	for seed := range 60 {
		r := rand.New(rand.NewPCG(262, uint64(seed)))
		blank := func(least int) string {
			b := ""
			for range least + r.IntN(3) {
				b += []string{" ", "\t", "\r"}[r.IntN(3)]
			}
			return b
		}
		plain := script(r, 60)
		var l []string
		for _, line := range plain {
			for r.IntN(3) == 0 {
				l = append(l, blank(0)+[]string{"", "#", "# now", "#\ttick 5", "##", "#round"}[r.IntN(6)]+blank(0))
			}
			x := blank(0)
			for _, word := range strings.Fields(line) {
				x += word + blank(1)
			}
			if r.IntN(2) == 0 {
				x = strings.TrimRight(x, " \t\r")
			}
			l = append(l, x)
		}
		if told, want := ran(t, l), ran(t, plain); told != want {
			t.Fatalf("P26.2: %q tells %q, not %q, what %q does", l, told, want, plain)
		}
	}
}

// R5: what is told hangs on the lines alone.
func TestR5TheSameTwice(t *testing.T) {
	for seed := range 20 {
		l := script(rand.New(rand.NewPCG(5, uint64(seed))), 100)
		told := ran(t, l)
		if ran(t, l) != told || all(shell.New(), l...) != told {
			t.Fatalf("R5: %q tells another thing the second time", l)
		}
	}
}

// form is what a line may tell.
func form() *regexp.Regexp {
	side := `[cs][1-9]\d* [st][1-9]\d* v\d+ sent \d+ took \d+( done)?( failed \d+)?( closed)?\n`
	return regexp.MustCompile(`^(|ok\n|ok [1-9]\d*\n|error (16|17)\n|yes\n|no\n|\d+ \d+\n|([0-9a-f]{2})+\n|(` + side + `)+|((agree|unique|secret|honest|early|version)\n)+)$`)
}

// P5: of whatever bytes a line is, something is told that may be told.
func TestP5AnyBytes(t *testing.T) {
	r := rand.New(rand.NewPCG(5, 5))
	may := form()
	s := served()
	pieces := []string{" ", "\t", "\r", "#", "0", "1", "2", "9", "00", "a", "ff", "-", "\x00", "\xff", "é", "now", "lines"}
	for _, line := range lines() {
		pieces = append(pieces, strings.Fields(line)[0]+" ", line)
	}
	for range 20000 {
		line := ""
		for range r.IntN(9) {
			line += pieces[r.IntN(len(pieces))]
		}
		if r.IntN(4) == 0 && line != "" {
			b := []byte(line)
			b[r.IntN(len(b))] = byte(r.IntN(256))
			line = strings.ReplaceAll(string(b), "\n", "")
		}
		if told := s.Line(line); !may.MatchString(told) {
			t.Fatalf("P5: %q tells %q", line, told)
		}
	}
}

// P6: where all that is said comes, both sides are done, and all that was sent is taken.
func TestP6ItGoes(t *testing.T) {
	for _, start := range [][2]string{
		{"serve 1 0 9 9 9", "dial 1 1 0 0 0"},
		{"serve 1 1 9 9 9", "dial 1 1 0 0 0"},
		{"serve 21 0 9 9 9", "dial 1 12 0 0 0"},
		{"serve 21 1 9 9 9", "dial 1 12 1 0 0"},
		{"serve 312 1 0 0 0", "dial 1 13 2 0 0"},
	} {
		s := shell.New()
		all(s, start[0], start[1])
		all(s, times("round", 9)...)
		all(s, times("send 1", 3)...)
		all(s, "reply 1 1", "reply 1 1", "tick 5", "update 1 0")
		all(s, times("round", 3)...)
		all(s, strings.TrimSuffix(start[1], "0 0")+"1 1", "send 2") // with the first one's ticket
		all(s, times("round", 9)...)
		lines := strings.Split(s.Line("lines"), "\n")
		if len(lines) != 5 || s.Line("broken") != "ok\n" {
			t.Fatalf("P6: %q: %q", start, lines)
		}
		for i, want := range []string{"sent 3 took 2 done", "sent 1 took 0 done", "sent 2 took 3 done", "sent 0 took 1 done"} {
			if !strings.HasSuffix(lines[i], want) {
				t.Errorf("P6: %q: %s, not %s", start, lines[i], want)
			}
		}
	}
}
