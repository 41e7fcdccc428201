package conn

import (
	"maps"
	"slices"

	"shibboleth/frame"
	"shibboleth/kinds"
	"shibboleth/span"
	"shibboleth/stream"
)

// space is what a side has for a level, beside its guard.
type space struct {
	in    stream.Stream
	came  span.Set // the numbers that are to be acknowledged
	owes  bool     // not all of them are
	said  int      // bytes of its messages
	items []*item
	sent  map[int][]*item // what went in which packet
	next  int             // the number of the packet to come
	acked int             // one above the greatest number that was acknowledged
}

// item is a frame that is sent until it is acknowledged.
type item struct {
	frame      frame.Frame
	due, acked bool
}

// add lets frames be due.
func (s *space) add(frames ...frame.Frame) {
	for _, f := range frames {
		s.items = append(s.items, &item{frame: f, due: true})
	}
}

// say lets a message be due. It is one piece: none is as long as what a crypto frame may have.
func (s *space) say(msg []byte) {
	s.add(frame.Frame{Kind: kinds.Crypto, At: s.said, Data: msg})
	s.said += len(msg)
}

// again lets all that is not acknowledged be due.
func (s *space) again() {
	for _, x := range s.items {
		x.due = true
	}
}

// speaks: is something due but data?
func (s *space) speaks() bool {
	return slices.ContainsFunc(s.items, func(x *item) bool { return x.due && x.frame.Kind != kinds.Data })
}

// owe lets the packet of a number be acknowledged.
func (s *space) owe(number int) {
	s.came.Add(number)
	s.owes = true
}

// went keeps that an item has gone, in the packet of a number.
func (s *space) went(x *item, number int) {
	x.due = false
	if s.sent == nil {
		s.sent = map[int][]*item{}
	}
	s.sent[number] = append(s.sent[number], x)
}

// acknowledge forgets what went in the packets of those numbers, in whichever others it went, too.
func (s *space) acknowledge(l []frame.Span) {
	for number, items := range s.sent {
		if !within(l, number) {
			continue
		}
		for _, x := range items {
			x.acked = true
		}
	}
	isAcked := func(x *item) bool { return x.acked }
	isOpen := func(x *item) bool { return !x.acked }
	s.items = slices.DeleteFunc(s.items, isAcked)
	maps.DeleteFunc(s.sent, func(_ int, items []*item) bool { return !slices.ContainsFunc(items, isOpen) })
	for _, x := range l {
		if x.From < s.next { // no packet has the numbers from there on
			s.acked = max(s.acked, min(x.To+1, s.next))
		}
	}
}

// within: is a number in one of the spans?
func within(l []frame.Span, number int) bool {
	return slices.ContainsFunc(l, func(x frame.Span) bool { return x.From <= number && number <= x.To })
}
