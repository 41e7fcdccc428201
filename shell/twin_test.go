package shell_test

import (
	"fmt"
	"slices"
	"strconv"
	"strings"
	"testing"

	"shibboleth/api"
	"shibboleth/audit"
	"shibboleth/shell"
	"shibboleth/world"
)

// acts are the words of the acts that have nothing but numbers, by the document's numbers, and how many numbers each has.
var acts = []struct {
	word string
	many int
}{
	{"serve", 5}, {"dial", 5}, {"send", 1}, {"reply", 2}, {"poll", 0}, {"come", 1},
	{"lead", 3}, {"tick", 1}, {"update", 2}, {"close", 3}, {"leak", 2}, {"make", 4},
}

// The acts that the tests do by their numbers.
const (
	poll  = 4
	come  = 5
	tick  = 7
	makes = 11
	hand  = 12
)

// textKind is the kind of a text.
const textKind = 1

// others are the words of the lines that are no acts of numbers, each with words that may stand behind it.
var others = []string{"text w", "hand 1 0 1 00", "round", "lines", "broken", "can 1", "letter 1", "now"}

// tells holds what a line tells against what it should.
func tells(t *testing.T, s *shell.Shell, line, want string) {
	t.Helper()
	if got := s.Line(line); got != want {
		t.Errorf("P26.1: %.200q tells %.200q, not %.200q", line, got, want)
	}
}

// all lets lines be done, and tells what they tell.
func all(s *shell.Shell, lines ...string) string {
	var b strings.Builder
	for _, line := range lines {
		b.WriteString(s.Line(line))
	}
	return b.String()
}

// times is a line, so many times.
func times(line string, many int) []string {
	return slices.Repeat([]string{line}, many)
}

// served is a shell with a server of the version 1 and two clients that are done with it; some datagrams of theirs have not come.
func served() *shell.Shell {
	s := shell.New()
	all(s, "serve 1 0 9 9 9", "dial 1 1 0 0 0", "dial 1 1 0 0 0")
	all(s, times("round", 6)...)
	all(s, "send 1", "reply 1 2", "poll")
	return s
}

// asked is all that can be asked of a shell.
func asked(s *shell.Shell) string {
	told := all(s, "now", "lines", "broken")
	for n := range 100 {
		told += s.Line("letter " + strconv.Itoa(n))
	}
	for h := range 700 {
		told += s.Line("can " + strconv.Itoa(h))
	}
	return told
}

// twin is a shell, and a world in which the same is done by acts.
type twin struct {
	t *testing.T
	s *shell.Shell
	w *world.World
}

func newTwin(t *testing.T) *twin {
	return &twin{t, shell.New(), world.New()}
}

// act does an act of numbers, on both sides, and tells the term that was made.
func (x *twin) act(what int, l ...int) api.Term {
	x.t.Helper()
	line := acts[what].word
	a := world.Act{What: what}
	for i, n := range l {
		line += " " + strconv.Itoa(n)
		*[]*int{&a.A, &a.B, &a.C, &a.D, &a.E}[i] = n
	}
	return x.does(line, a)
}

// text makes a text, on both sides.
func (x *twin) text(b []byte) api.Term {
	x.t.Helper()
	return x.does("text "+string(b), world.Act{What: makes, A: textKind, Text: b})
}

// hand lets bytes come by hand, on both sides.
func (x *twin) hand(a, b, c int, data []byte) {
	x.t.Helper()
	x.does(fmt.Sprintf("hand %d %d %d %x", a, b, c, data), world.Act{What: hand, A: a, B: b, C: c, Data: data})
}

// does does a line at the shell, and the act in the world, and tells the term that was made.
func (x *twin) does(line string, a world.Act) api.Term {
	x.t.Helper()
	h := x.w.Do(a)
	tells(x.t, x.s, line, made(h))
	return h
}

// round does a round on both sides.
func (x *twin) round() {
	x.t.Helper()
	was := x.w.Datagrams()
	x.w.Do(world.Act{What: poll})
	for n := was + 1; n <= x.w.Datagrams(); n++ {
		x.w.Do(world.Act{What: come, A: n})
	}
	x.w.Do(world.Act{What: tick})
	tells(x.t, x.s, "round", "ok\n")
}

// made is what an act tells that makes a term, or none.
func made(h api.Term) string {
	if h == 0 {
		return "ok\n"
	}
	return fmt.Sprintf("ok %d\n", h)
}

// listed is what is told of a list.
func listed(l []string) string {
	if len(l) == 0 {
		return "ok\n"
	}
	return strings.Join(l, "\n") + "\n"
}

// same holds all that can be asked of the shell against the world.
func (x *twin) same() {
	x.t.Helper()
	tells(x.t, x.s, "lines", listed(audit.Lines(x.w)))
	tells(x.t, x.s, "broken", listed(audit.Broken(x.w)))
	tells(x.t, x.s, "now", fmt.Sprintf("%d %d\n", x.w.Now(), x.w.Datagrams()))
	for n := 1; n <= x.w.Datagrams(); n++ {
		tells(x.t, x.s, fmt.Sprintf("letter %d", n), fmt.Sprintf("%x\n", x.w.Letter(n)))
	}
	for _, n := range []int{0, x.w.Datagrams() + 1, x.w.Datagrams() + 2, 999999999} {
		tells(x.t, x.s, fmt.Sprintf("letter %d", n), "error 17\n")
	}
	for h := range x.w.Table().Size() + 3 {
		want := "no\n"
		if x.w.Can(api.Term(h)) {
			want = "yes\n"
		}
		tells(x.t, x.s, fmt.Sprintf("can %d", h), want)
	}
}
