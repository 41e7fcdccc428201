package shell

import (
	"iter"
	"strconv"
	"strings"

	"shibboleth/api"
)

const (
	maxFigures = 9 // of a number
	decimals   = "0123456789"
	halves     = "0123456789abcdef" // of a byte
)

// words goes through a line's words.
func words(line string) iter.Seq[string] {
	return func(yield func(string) bool) {
		from := 0
		for i := 0; i <= len(line); i++ {
			if i < len(line) && !isBlank(line[i]) {
				continue
			}
			if from < i && !yield(line[from:i]) {
				return
			}
			from = i + 1
		}
	}
}

func isBlank(c byte) bool {
	return c == ' ' || c == '\t' || c == '\r'
}

// number tells a word's number; a word that is none is a panic, as in all that reads words.
func number(word string) int {
	if len(word) > maxFigures || len(word) > 1 && word[0] == '0' {
		panic(api.ErrLine)
	}
	n := 0
	for i := range len(word) {
		n = n*len(decimals) + figure(word[i], decimals)
	}
	return n
}

// pairs tells the bytes of a word of pairs of figures.
func pairs(word string) []byte {
	if len(word)%2 != 0 {
		panic(api.ErrLine)
	}
	var b []byte
	for i := 0; i < len(word); i += 2 {
		b = append(b, byte(figure(word[i], halves)<<4|figure(word[i+1], halves)))
	}
	return b
}

// figure tells the place of a figure among all.
func figure(c byte, all string) int {
	n := strings.IndexByte(all, c)
	if n < 0 {
		panic(api.ErrLine)
	}
	return n
}

// figures tells bytes in pairs of figures.
func figures(b []byte) string {
	l := make([]byte, 0, 2*len(b))
	for _, x := range b {
		l = append(l, halves[x>>4], halves[x&15])
	}
	return string(l)
}

// listed tells what stands one a line.
func listed(l []string) string {
	if len(l) == 0 {
		return tell("ok")
	}
	return tell(strings.Join(l, end))
}

// tell is a line that is told: a word, and numbers behind it.
func tell(word string, numbers ...int) string {
	for _, n := range numbers {
		word += " " + strconv.Itoa(n)
	}
	return word + end
}
