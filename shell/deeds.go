package shell

import (
	"strconv"

	"shibboleth/api"
	"shibboleth/audit"
	"shibboleth/kinds"
	"shibboleth/world"
)

// The acts of layer 24.
const (
	serve = iota
	dial
	send
	reply
	poll
	come
	lead
	tick
	update
	shut
	leak
	craft
	hand
)

const (
	maxNumbers = 5 // of an act
	ofHand     = 3 // numbers, ahead of the bytes that come by hand
)

// deed is what a line does that begins with its word.
type deed struct {
	act   int // of layer 24, where it does the one that its numbers say
	words int // that stand behind the first one
	does  func(*Shell, order) string
}

// order is what a line says: the act of its first word, and the words behind it.
type order struct {
	act   int
	words []string
}

// deeds tells what each line does, and by that what it tells.
func deeds() map[string]deed {
	return map[string]deed{
		"serve":  {act: serve, words: 5, does: (*Shell).act},
		"dial":   {act: dial, words: 5, does: (*Shell).act},
		"send":   {act: send, words: 1, does: (*Shell).act},
		"reply":  {act: reply, words: 2, does: (*Shell).act},
		"poll":   {act: poll, words: 0, does: (*Shell).act},
		"come":   {act: come, words: 1, does: (*Shell).act},
		"lead":   {act: lead, words: 3, does: (*Shell).act},
		"tick":   {act: tick, words: 1, does: (*Shell).act},
		"update": {act: update, words: 2, does: (*Shell).act},
		"close":  {act: shut, words: 3, does: (*Shell).act},
		"leak":   {act: leak, words: 2, does: (*Shell).act},
		"make":   {act: craft, words: 4, does: (*Shell).act},
		"text":   {act: craft, words: 1, does: (*Shell).text},
		"hand":   {act: hand, words: ofHand + 1, does: (*Shell).hand},
		"round":  {words: 0, does: (*Shell).round},
		"lines":  {words: 0, does: (*Shell).lines},
		"broken": {words: 0, does: (*Shell).broken},
		"can":    {words: 1, does: (*Shell).can},
		"letter": {words: 1, does: (*Shell).letter},
		"now":    {words: 0, does: (*Shell).now},
	}
}

func (s *Shell) act(o order) string {
	return s.do(numbered(o.act, o.words))
}

func (s *Shell) text(o order) string {
	return s.do(world.Act{What: o.act, A: kinds.Text, Text: []byte(o.words[0])})
}

func (s *Shell) hand(o order) string {
	x := numbered(o.act, o.words[:ofHand])
	x.Data = pairs(o.words[ofHand])
	return s.do(x)
}

func (s *Shell) round(order) string {
	old := s.world.Datagrams()
	s.world.Do(world.Act{What: poll})
	for n := old + 1; n <= s.world.Datagrams(); n++ {
		s.world.Do(world.Act{What: come, A: n})
	}
	return s.do(world.Act{What: tick})
}

func (s *Shell) lines(order) string {
	return listed(audit.Lines(s.world))
}

func (s *Shell) broken(order) string {
	return listed(audit.Broken(s.world))
}

func (s *Shell) can(o order) string {
	if s.world.Can(api.Term(number(o.words[0]))) {
		return tell("yes")
	}
	return tell("no")
}

func (s *Shell) letter(o order) string {
	n := number(o.words[0])
	if n < 1 || n > s.world.Datagrams() {
		panic(api.ErrIndex)
	}
	return tell(figures(s.world.Letter(n)))
}

func (s *Shell) now(order) string {
	return tell(strconv.Itoa(s.world.Now()), s.world.Datagrams())
}

// do does an act, and tells that, with the term that was made.
func (s *Shell) do(x world.Act) string {
	h := s.world.Do(x)
	if h == 0 {
		return tell("ok")
	}
	return tell("ok", int(h))
}

// numbered is an act of at most so many numbers as an act has; the others are 0.
func numbered(what int, words []string) world.Act {
	var l [maxNumbers]int
	for i, word := range words {
		l[i] = number(word)
	}
	return world.Act{What: what, A: l[0], B: l[1], C: l[2], D: l[3], E: l[4]}
}
