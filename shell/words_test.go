package shell_test

import (
	"fmt"
	"slices"
	"strings"
	"testing"

	"shibboleth/api"
	"shibboleth/shell"
)

// lines are one of each word, of numbers where it has some.
func lines() []string {
	l := slices.Clone(others)
	for _, a := range acts {
		l = append(l, a.word+strings.Repeat(" 1", a.many))
	}
	return l
}

// wrong holds of lines that are none what they tell, and that they do nothing.
func wrong(t *testing.T, l ...string) {
	t.Helper()
	s := served()
	was := asked(s)
	for _, line := range l {
		tells(t, s, line, "error 16\n")
	}
	if asked(s) != was {
		t.Errorf("P26.1: lines that are none do something: %.200q", l)
	}
}

// A line has as many words as its first one wants.
func TestP26_1HowManyWords(t *testing.T) {
	for _, line := range lines() {
		none := []string{line + " 1", line + " 0", line + " x", line + " #", line + " # 1", line + " 1 1", line + strings.Repeat(" 1", 99)}
		for l := strings.Fields(line); len(l) > 1; {
			l = l[:len(l)-1]
			none = append(none, strings.Join(l, " "))
		}
		wrong(t, none...)
		s := served()
		if told := s.Line(line); strings.HasPrefix(told, "error") {
			t.Errorf("P26.1: %q tells %q", line, told)
		}
	}
}

// in is a line in which another word stands.
func in(line string, at int, word string) string {
	l := strings.Fields(line)
	l[at] = word
	return strings.Join(l, " ")
}

// Where a number stands there is nothing but one.
func TestP26_1Numbers(t *testing.T) {
	for _, line := range lines() {
		var none []string
		for i, word := range strings.Fields(line) {
			if word != "1" {
				continue
			}
			for _, x := range []string{
				"01", "00", "007", "0000000001", "1234567890", "1000000000", "9999999999", "0123456789", "99999999999999999999999",
				"-1", "-0", "+1", "1.", "1.0", ".1", "1e3", "0x1", "0b1", "0o7", "1_0", "1,0", "x", "a", "1a", "a1", "/", ":", "1/", "1:", "#", "1#", "#1",
				"é", "١", "１", "\x00", "1\x00", "\x001", "\v1", "1\f", "1\u00a0", "\xff", "''", "\"1\"",
			} {
				none = append(none, in(line, i, x))
			}
			for _, x := range []string{"0", "1", "9", "10", "100", "101010101", "999999999"} {
				if told := shell.New().Line(in(line, i, x)); told == "error 16\n" {
					t.Errorf("P26.1: %q: the word %d is no number: %s", line, i, x)
				}
			}
		}
		wrong(t, none...)
	}
}

// Each number counts as it stands.
func TestP26_1NumbersCount(t *testing.T) {
	s := shell.New()
	now := 0
	for _, n := range []int{0, 1, 2, 9, 10, 11, 90, 99, 100, 123, 456, 789, 907, 999, 1000} {
		tells(t, s, fmt.Sprintf("tick %d", n), "ok\n")
		now += n
		tells(t, s, "now", fmt.Sprintf("%d 0\n", now))
	}
}

// The words are those of the document, letter by letter.
func TestP26_1OtherWords(t *testing.T) {
	var l []string
	for _, line := range lines() {
		word, behind, _ := strings.Cut(line, " ")
		for _, other := range []string{
			strings.ToUpper(word), strings.ToUpper(word[:1]) + word[1:], word + "s", word + "#", word + ":", word + "\x00", word + "\v", "\f" + word,
			word[1:], word[:len(word)-1], word + word, "-" + word, "\u00a0" + word, "\ufeff" + word, word + ";", word + "," + behind, word + "\u2003" + behind,
		} {
			if other != "line" || behind != "" {
				l = append(l, other, other+" "+behind)
			}
		}
	}
	for n := range 27 {
		l = append(l, fmt.Sprint(n), fmt.Sprintf("%d 1 1 1 1 1", n))
	}
	wrong(t, append(l, "foo", "ok", "error", "error 16", "yes", "help", "quit", "act 0", "list", "line", "run", "leaks 1 0", "say 1", "close", "end 1 1 1", "craft 1 1 1 1", "shut 1 1 1", "x # y", "\x00", "\xff", "//", ";", "!", "-- x", "' #'")...)
}

// Of all bytes just three are blanks.
func TestP26_1Blanks(t *testing.T) {
	s := shell.New()
	for b := range 256 {
		c := string([]byte{byte(b)})
		is := strings.Contains(" \t\r", c)
		for _, line := range []string{c + "now", "now" + c, c + c + "now" + c + c, "lead 1 1" + c + "1", "tick 0" + c, "hand 1 0 1" + c + "00"} {
			want := "error 16\n"
			switch {
			case b == '\n':
				want = "error 2\n"
			case b == '#' && line[0] == '#':
				want = ""
			case is && strings.Contains(line, "now"):
				want = "0 0\n"
			case is:
				want = "ok\n"
			}
			tells(t, s, line, want)
		}
	}
}

// What is no line tells nothing, and does nothing.
func TestP26_1Nothing(t *testing.T) {
	s := served()
	was := asked(s)
	for _, line := range []string{
		"", " ", "\t", "\r", " \t\r ", strings.Repeat(" ", 70000),
		"#", "##", "# x", "#x", "#serve 1 0 9 9 9", "# tick 5", " # tick 5", "\t#\r", "\r\t #x y z\r", "#\x00", "#\xff", "#" + strings.Repeat("x", 70000),
	} {
		tells(t, s, line, "")
	}
	if asked(s) != was {
		t.Error("P26.1: what is nothing does something")
	}
}

// Of a line's end within a line it tells an error, and does nothing.
func TestP26_1LineEnd(t *testing.T) {
	s := served()
	was := asked(s)
	for _, line := range []string{
		"\n", "\n\n", "now\n", "\nnow", "now\nnow", "now \n", "tick 5\n", "tick\n5", "tick 5\r\n", "text a\nb", "text \n", "hand 1 0 1 00\n", "foo\n", "foo\nbar", "tick 5\ntick 5", "tick 5\n# x",
	} {
		tells(t, s, line, "error 2\n")
	}
	if asked(s) != was {
		t.Error("P26.1: a line with a line's end does something")
	}
}

func TestP26_1OfNil(t *testing.T) {
	var s *shell.Shell
	for _, line := range append(lines(), "foo", "tick x", "can 01") {
		tells(t, s, line, "error 1\n")
	}
}

// Run tells what the lines of a new shell tell.
func TestP26_1Run(t *testing.T) {
	for script, want := range map[string]string{
		"":                                     "",
		"\n":                                   "",
		"\n\n\n":                               "",
		"now":                                  "0 0\n",
		"now\n":                                "0 0\n",
		"\nnow":                                "0 0\n",
		"now\r\nnow\r\n":                       "0 0\n0 0\n",
		"now\rnow":                             "error 16\n",
		"\r\nnow\r":                            "0 0\n",
		"tick 5\nnow\n#\nfoo\nnow":             "ok\n5 0\nerror 16\n5 0\n",
		"# now\nnow":                           "0 0\n",
		"text a\ntext b\ntext a\ncan 2\ncan 3": "ok 1\nok 2\nok 1\nyes\nno\n",
		"letter 1\nlines\nbroken":              "error 17\nok\nok\n",
		"now\x00\nnow":                         "error 16\n0 0\n",
	} {
		for range 2 { // each time at a new one
			if s, e := shell.Run(script); s != want || e != api.OK {
				t.Errorf("P26.1: %q: %q, %d, not %q", script, s, e, want)
			}
		}
	}
}

func TestP26_1RunOfMany(t *testing.T) {
	const most = 1 << 16
	for _, l := range []string{"now\n", "\n", " ", "#", "foo\n", "serve 1 0 9 9 9\nround\n", "text " + strings.Repeat("a", 100) + "\n", "é\n"} {
		script := strings.Repeat(l, most/len(l)+1)
		var want strings.Builder
		s := shell.New()
		for _, line := range strings.Split(script[:most], "\n") {
			want.WriteString(s.Line(line))
		}
		if told, e := shell.Run(script[:most]); told != want.String() || e != api.OK {
			t.Errorf("P26.1: most bytes of %q: %d bytes, %d", l, len(told), e)
		}
		for _, size := range []int{most + 1, most + len(l)} {
			if told, e := shell.Run((script + script)[:size]); told != "" || e != api.ErrLong {
				t.Errorf("P26.1: %d bytes of %q: %d bytes, %d", size, l, len(told), e)
			}
		}
	}
	if told, e := shell.Run(strings.Repeat("now\n", 1<<20)); told != "" || e != api.ErrLong {
		t.Errorf("P26.1: far too many bytes: %d bytes, %d", len(told), e)
	}
	if told, e := shell.Run(strings.Repeat("now\n", most/4)); told != strings.Repeat("0 0\n", most/4) || e != api.OK {
		t.Errorf("P26.1: as many bytes as may be: %d bytes, %d", len(told), e)
	}
}
