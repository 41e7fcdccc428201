package span_test

import (
	"maps"
	"math"
	"math/rand/v2"
	"slices"
	"testing"

	"shibboleth/api"
	"shibboleth/frame"
	"shibboleth/kinds"
	"shibboleth/span"
)

const top = 1<<62 - 1

// noNumbers are ints that are no number.
var noNumbers = []int{math.MinInt, math.MinInt + 1, -1 << 62, -64, -2, -1, top + 1, top + 2, math.MaxInt - 1, math.MaxInt}

// adds holds what Add tells of a number, and Has ahead of it and behind it.
func adds(t *testing.T, s *span.Set, n int, want bool) {
	t.Helper()
	before := s.Spans()
	had := s.Has(n)
	if had && want {
		t.Errorf("P11.1: Has(%d) ahead of Add: yes, in %v", n, before)
	}
	if got := s.Add(n); got != want {
		t.Errorf("P11.1: Add(%d): %t, to %v behind %d", n, got, before, s.Floor())
	}
	if !want && (!slices.Equal(s.Spans(), before) || s.Has(n) != had) {
		t.Errorf("P11.1: Add(%d), refused, made %v of %v", n, s.Spans(), before)
	}
	if want && s.Has(n) != (n >= s.Floor()) {
		t.Errorf("P11.1: Has(%d) behind Add: %t, with the floor %d", n, s.Has(n), s.Floor())
	}
}

// holds holds which spans and which floor a set has, and of which numbers it says that they are in it.
func holds(t *testing.T, s *span.Set, floor int, want ...frame.Span) {
	t.Helper()
	if l := s.Spans(); !slices.Equal(l, want) || s.Floor() != floor {
		t.Errorf("P11.1: %v behind %d, not %v behind %d", l, s.Floor(), want, floor)
	}
	for i, x := range want {
		for _, n := range []int{x.From, x.From + (x.To-x.From)/2, x.To} {
			if !s.Has(n) {
				t.Errorf("P11.1: Has(%d) in %v: no", n, want)
			}
		}
		if s.Has(x.To+1) || s.Has(x.From-1) {
			t.Errorf("P11.1: Has one next to the span %d of %v", i, want)
		}
	}
	for _, n := range noNumbers {
		if s.Has(n) {
			t.Errorf("P11.1: Has(%d) in %v: yes", n, want)
		}
	}
}

// having is a set to which numbers were added, one behind the other.
func having(numbers ...int) *span.Set {
	s := &span.Set{}
	for _, n := range numbers {
		s.Add(n)
	}
	return s
}

// apart is so many spans of one number each, from a number on, by so many.
func apart(many, from, by int) (numbers []int, spans []frame.Span) {
	for i := range many {
		n := from + i*by
		numbers = append(numbers, n)
		spans = append(spans, frame.Span{From: n, To: n})
	}
	slices.Reverse(spans)
	return numbers, spans
}

func TestP11_1EmptySet(t *testing.T) {
	holds(t, &span.Set{}, 0)
	for _, n := range []int{0, 1, 2, 63, 64, 1 << 32, 1 << 61, top - 1, top} {
		s := &span.Set{}
		if s.Has(n) {
			t.Errorf("P11.1: Has(%d) in none: yes", n)
		}
		adds(t, s, n, true)
		holds(t, s, 0, frame.Span{From: n, To: n})
		adds(t, s, n, false)
	}
	var value span.Set
	adds(t, &value, 7, true)
	holds(t, &value, 0, frame.Span{From: 7, To: 7})
}

func TestP11_1NoSet(t *testing.T) {
	var s *span.Set
	for _, n := range append([]int{0, 1, 1 << 61, top}, noNumbers...) {
		if s.Add(n) || s.Has(n) || len(s.Spans()) != 0 || s.Floor() != 0 {
			t.Errorf("P11.1: %d in no set", n)
		}
	}
}

func TestP11_1NoNumbers(t *testing.T) {
	full, _ := apart(40, 0, 2)
	for _, numbers := range [][]int{nil, {0}, {5, 3}, {0, 1}, {top}, {top - 1, top}, {0, top}, full} {
		s := having(numbers...)
		for _, n := range noNumbers {
			adds(t, s, n, false)
			if s.Has(n) {
				t.Errorf("P11.1: Has(%d): yes", n)
			}
		}
	}
}

func TestP11_1ExampleOfTheChapter(t *testing.T) {
	s := &span.Set{}
	for _, n := range []int{1, 3, 2} {
		adds(t, s, n, true)
	}
	holds(t, s, 0, frame.Span{From: 1, To: 3})
}

func TestP11_1JoinedOrNot(t *testing.T) {
	// To 10 to 12 and 20 to 22 a number is added.
	ahead := []int{10, 11, 12, 20, 21, 22}
	low, high := frame.Span{From: 10, To: 12}, frame.Span{From: 20, To: 22}
	for _, x := range []struct {
		n    int
		want []frame.Span
	}{
		{0, []frame.Span{high, low, {From: 0, To: 0}}},
		{8, []frame.Span{high, low, {From: 8, To: 8}}},
		{9, []frame.Span{high, {From: 9, To: 12}}},
		{13, []frame.Span{high, {From: 10, To: 13}}},
		{14, []frame.Span{high, {From: 14, To: 14}, low}},
		{18, []frame.Span{high, {From: 18, To: 18}, low}},
		{19, []frame.Span{{From: 19, To: 22}, low}},
		{23, []frame.Span{{From: 20, To: 23}, low}},
		{24, []frame.Span{{From: 24, To: 24}, high, low}},
		{top, []frame.Span{{From: top, To: top}, high, low}},
	} {
		s := having(ahead...)
		adds(t, s, x.n, true)
		holds(t, s, 0, x.want...)
		adds(t, s, x.n, false)
		holds(t, s, 0, x.want...)
	}
	for _, n := range ahead {
		s := having(ahead...)
		adds(t, s, n, false)
		holds(t, s, 0, high, low)
	}
}

func TestP11_1OneNumberJoinsTwoSpans(t *testing.T) {
	for _, middle := range []int{1, 2, 100, 1 << 61, top - 1} {
		s := having(middle-1, middle+1)
		holds(t, s, 0, frame.Span{From: middle + 1, To: middle + 1}, frame.Span{From: middle - 1, To: middle - 1})
		adds(t, s, middle, true)
		holds(t, s, 0, frame.Span{From: middle - 1, To: middle + 1})
	}
	// In the middle of others, and at both ends of the list.
	for hole := 10; hole <= 50; hole += 10 {
		s := having(8, 9, 11, 12, 19, 21, 29, 31, 39, 41, 49, 51)
		many := len(s.Spans())
		adds(t, s, hole, true)
		if l := s.Spans(); len(l) != many-1 || !s.Has(hole-1) || !s.Has(hole+1) {
			t.Errorf("P11.1: behind %d: %v", hole, l)
		}
	}
}

func TestP11_1FirstAndLastNumbers(t *testing.T) {
	s := having(1, top-1)
	adds(t, s, 0, true)
	adds(t, s, top, true)
	holds(t, s, 0, frame.Span{From: top - 1, To: top}, frame.Span{From: 0, To: 1})
	adds(t, s, top+1, false)
	adds(t, s, -1, false)
	// The floor is one above the last number but one at most.
	numbers, spans := apart(33, top-64, 2)
	s = having(numbers...)
	holds(t, s, top-63, spans[:32]...)
}

func TestP11_1AnyOrderIsOneSpan(t *testing.T) {
	chance := rand.New(rand.NewPCG(11, 1))
	for range 200 {
		s, many := &span.Set{}, 1+chance.IntN(30)
		for _, n := range chance.Perm(many) {
			adds(t, s, 1000+n, true)
		}
		holds(t, s, 0, frame.Span{From: 1000, To: 999 + many})
	}
}

func TestP11_1ThirtyTwoSpansAndMore(t *testing.T) {
	numbers, spans := apart(33, 100, 3)
	s := having(numbers[:32]...)
	holds(t, s, 0, spans[1:]...)
	// Nothing goes while there are not more: below the lowest one there is room for what joins.
	adds(t, s, 99, true)
	adds(t, s, 98, true)
	adds(t, s, 0, true)
	holds(t, s, 1, append(slices.Clone(spans[1:32]), frame.Span{From: 98, To: 100})...)

	s = having(numbers...)
	holds(t, s, 101, spans[:32]...)
	for n := range 101 {
		adds(t, s, n, false)
	}
	// From the floor on there is room, for what joins the lowest one.
	adds(t, s, 102, true)
	holds(t, s, 101, append(slices.Clone(spans[:31]), frame.Span{From: 102, To: 103})...)
	adds(t, s, 101, true)
	adds(t, s, 100, false)
	holds(t, s, 101, append(slices.Clone(spans[:31]), frame.Span{From: 101, To: 103})...)
}

func TestP11_1ALongLowestSpanGoesWhole(t *testing.T) {
	numbers, spans := apart(32, 100, 2)
	s := having(append(numbers, 50, 51, 52, 53)...)
	// The first one of the four went at once; so did the others.
	holds(t, s, 54, spans...)
	s = having(append([]int{50, 51, 52, 53}, numbers...)...)
	holds(t, s, 54, spans...)
	adds(t, s, 53, false)
	adds(t, s, 52, false)
	adds(t, s, 54, true)
	holds(t, s, 55, spans...)
}

func TestP11_1WhatIsAddedBelowAllGoes(t *testing.T) {
	numbers, spans := apart(32, 100, 2)
	for _, n := range []int{0, 1, 50, 97, 98} {
		s := having(numbers...)
		// It is added, and is the lowest span: so it goes.
		adds(t, s, n, true)
		holds(t, s, n+1, spans...)
		adds(t, s, n, false)
		for below := range n {
			adds(t, s, below, false)
		}
	}
	s := having(numbers...)
	adds(t, s, 99, true)
	holds(t, s, 0, append(slices.Clone(spans[:31]), frame.Span{From: 99, To: 100})...)
}

func TestP11_1FloorStaysWhenSpansJoin(t *testing.T) {
	numbers, _ := apart(33, 100, 2)
	s := having(numbers...)
	for n := 103; n < 164; n += 2 {
		adds(t, s, n, true)
	}
	holds(t, s, 101, frame.Span{From: 102, To: 164})
	// There is room again, but not below the floor.
	adds(t, s, 100, false)
	adds(t, s, 99, false)
	adds(t, s, 101, true)
	holds(t, s, 101, frame.Span{From: 101, To: 164})
	numbers, spans := apart(31, 200, 2)
	for _, n := range numbers {
		adds(t, s, n, true)
	}
	holds(t, s, 101, append(spans, frame.Span{From: 101, To: 164})...)
	adds(t, s, 300, true)
	holds(t, s, 165, append([]frame.Span{{From: 300, To: 300}}, spans...)...)
}

// model is a set by the words: its numbers, one by one, with no thrift.
type model struct {
	numbers map[int]struct{}
	floor   int
}

// has: is a number in it?
func (m *model) has(n int) bool {
	_, is := m.numbers[n]
	return is
}

// spans tells the numbers that follow one another, the greatest first.
func (m *model) spans() (l []frame.Span) {
	for _, n := range slices.Backward(slices.Sorted(maps.Keys(m.numbers))) {
		if !m.has(n + 1) {
			l = append(l, frame.Span{From: n, To: n})
		}
		l[len(l)-1].From = n
	}
	return l
}

// add adds a number, and lets the lowest span go, if there are too many.
func (m *model) add(n int) bool {
	if n < m.floor || n > top || m.has(n) {
		return false
	}
	m.numbers[n] = struct{}{}
	if l := m.spans(); len(l) > 32 {
		lowest := l[len(l)-1]
		for x := lowest.From; x <= lowest.To; x++ {
			delete(m.numbers, x)
		}
		m.floor = lowest.To + 1
	}
	return true
}

func TestP11_1AsTheWordsSay(t *testing.T) {
	chance := rand.New(rand.NewPCG(11, 2))
	wentBelow := 0
	for range 150 {
		s, m := &span.Set{}, &model{numbers: map[int]struct{}{}}
		base := []int{-3, 0, 1 << 61, top - 150}[chance.IntN(4)]
		near := 20 + chance.IntN(200)
		for range 300 {
			n := base + chance.IntN(near)
			was := m.has(n)
			want := m.add(n)
			if !was && !want {
				wentBelow++
			}
			adds(t, s, n, want)
			if l := s.Spans(); !slices.Equal(l, m.spans()) || s.Floor() != m.floor {
				t.Fatalf("P11.1: %v behind %d, not %v behind %d", l, s.Floor(), m.spans(), m.floor)
			}
			if x := base + chance.IntN(near); s.Has(x) != m.has(x) {
				t.Fatalf("P11.1: Has(%d): %t", x, s.Has(x))
			}
		}
	}
	if wentBelow < 1000 {
		t.Errorf("P11.1: only %d numbers were below a floor", wentBelow)
	}
}

func TestP11_2RightAsAnAck(t *testing.T) {
	chance := rand.New(rand.NewPCG(11, 3))
	for range 300 {
		s := &span.Set{}
		base := []int{0, 5, 1 << 61, top - 199}[chance.IntN(4)]
		for range chance.IntN(200) {
			s.Add(base + chance.IntN(200))
			l := s.Spans()
			ack := frame.Frame{Kind: kinds.Ack, Spans: l}
			if !frame.Right(ack) {
				t.Fatalf("P11.2: no ack: %v", l)
			}
			b, e := frame.Write([]frame.Frame{ack})
			read, fault := frame.Read(b)
			if e != api.OK || fault != api.OK || len(read) != 1 || !slices.Equal(read[0].Spans, l) {
				t.Fatalf("P11.2: %v is read as %v: %d, %d", l, read, e, fault)
			}
		}
	}
}

func TestP11_2EmptyOnlyWithoutNumbers(t *testing.T) {
	if l := (&span.Set{}).Spans(); len(l) != 0 {
		t.Errorf("P11.2: none: %v", l)
	}
	for _, n := range []int{0, 1, top} {
		if l := having(n).Spans(); !frame.Right(frame.Frame{Kind: kinds.Ack, Spans: l}) {
			t.Errorf("P11.2: %d: %v", n, l)
		}
	}
}

func TestR4SpansAreNew(t *testing.T) {
	numbers, spans := apart(33, 100, 3)
	s := having(numbers...)
	l := s.Spans()
	_ = append(l, frame.Span{From: 1, To: 1})
	clear(l)
	holds(t, s, 101, spans[:32]...)
	l = s.Spans()
	adds(t, s, 500, true)
	adds(t, s, 104, true)
	if !slices.Equal(l, spans[:32]) {
		t.Errorf("R4: what was told changed with the set: %v", l)
	}
}

func TestR5SetsStandAlone(t *testing.T) {
	a := having(1, 2, 3, 10)
	copied := *a
	adds(t, a, 4, true)
	adds(t, &copied, 9, true)
	adds(t, &copied, 0, true)
	holds(t, a, 0, frame.Span{From: 10, To: 10}, frame.Span{From: 1, To: 4})
	holds(t, &copied, 0, frame.Span{From: 9, To: 10}, frame.Span{From: 0, To: 3})
	holds(t, &span.Set{}, 0)
}
