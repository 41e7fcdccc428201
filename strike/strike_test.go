package strike_test

import (
	"math"
	"math/rand/v2"
	"testing"

	"shibboleth/api"
	"shibboleth/strike"
)

const (
	latest  = 1 << 40 // of the times
	maxRoom = 1 << 16
)

// tries holds what Try tells, and how many are held behind it.
func tries(t *testing.T, s *strike.Store, n api.Term, made, now int, want api.Errno, many int) {
	t.Helper()
	before := s.Many()
	if got := s.Try(n, made, now); got != want || s.Many() != many {
		t.Errorf("P18.1: Try(%d, %d, %d) of %d: %d, then %d are held, not %d, %d", n, made, now, before, got, s.Many(), want, many)
	}
	// Asked again: asking changes nothing.
	if got := s.Many(); got != many {
		t.Errorf("P18.1: Many, asked again: %d, not %d", got, many)
	}
}

func TestP18_1ExampleOfTheChapter(t *testing.T) {
	s := strike.New(5, 1)
	tries(t, s, 7, 10, 10, api.OK, 1)
	tries(t, s, 7, 10, 12, api.ErrTwice, 1)
	tries(t, s, 8, 16, 16, api.OK, 1)
}

func TestP18_1EmptyStore(t *testing.T) {
	for _, window := range []int{math.MinInt, -1, 0, 1, 5, latest, math.MaxInt} {
		for _, room := range []int{math.MinInt, -1, 0, 1, 5, maxRoom, math.MaxInt} {
			s := strike.New(window, room)
			if s == nil {
				t.Fatalf("P18.1: New(%d, %d): none", window, room)
			}
			if s.Many() != 0 {
				t.Errorf("P18.1: New(%d, %d) holds %d", window, room, s.Many())
			}
			want, many := api.OK, 1
			if room <= 0 {
				want, many = api.ErrFull, 0
			}
			tries(t, s, 3, 0, 0, want, many)
		}
	}
}

func TestP18_1NoStore(t *testing.T) {
	var s *strike.Store
	for _, made := range []int{math.MinInt, -1, 0, 5, math.MaxInt} {
		for _, now := range []int{math.MinInt, -1, 0, 5, math.MaxInt} {
			tries(t, s, 1, made, now, api.ErrArg, 0)
		}
	}
}

func TestP18_1TimesBelowZero(t *testing.T) {
	s := strike.New(5, 1)
	tries(t, s, 1, 10, 10, api.OK, 1)
	below := []int{math.MinInt, math.MinInt + 1, -latest, -6, -5, -2, -1}
	others := append([]int{0, 1, 10, 16, 100, latest, math.MaxInt}, below...)
	for _, n := range []api.Term{1, 2} {
		for _, x := range below {
			for _, y := range others {
				// Ahead of all other errors, and nothing goes.
				tries(t, s, n, x, y, api.ErrArg, 1)
				tries(t, s, n, y, x, api.ErrArg, 1)
			}
		}
	}
	// It left no trace.
	tries(t, s, 1, 10, 10, api.ErrTwice, 1)
	tries(t, s, 2, 10, 10, api.ErrFull, 1)
}

func TestP18_1AheadOfItsTime(t *testing.T) {
	for _, window := range []int{0, 5, latest, math.MaxInt} {
		s := strike.New(window, 2)
		tries(t, s, 2, 1, 0, api.ErrOld, 0)
		tries(t, s, 2, 11, 10, api.ErrOld, 0)
		tries(t, s, 2, latest, 0, api.ErrOld, 0)
		tries(t, s, 2, math.MaxInt, 0, api.ErrOld, 0)
		tries(t, s, 2, 11, 11, api.OK, 1)
		// Ahead of the ErrTwice.
		tries(t, s, 2, 11, 10, api.ErrOld, 1)
	}
}

func TestP18_1WhatIsOld(t *testing.T) {
	for _, made := range []int{0, 1, 10, 1000, latest - 1000} {
		for _, window := range []int{0, 1, 2, 5, 63, 999} {
			for _, age := range []int{0, 1, window - 1, window, window + 1, window + 2, 2*window + 1, 1000} {
				if age < 0 {
					continue
				}
				want, many := api.OK, 1
				if age > window {
					want, many = api.ErrOld, 0
				}
				tries(t, strike.New(window, 1), 4, made, made+age, want, many)
				// What is held is old then, too: it goes for another one.
				s := strike.New(window, 1)
				tries(t, s, 4, made, made, api.OK, 1)
				want = api.ErrFull
				if age > window {
					want = api.OK
				}
				tries(t, s, 5, made+age, made+age, want, 1)
			}
		}
	}
}

func TestP18_1OldAheadOfTwiceAndFull(t *testing.T) {
	s := strike.New(5, 1)
	tries(t, s, 1, 10, 10, api.OK, 1)
	// It is held yet, and there is no room; but it is old, and nothing goes by it.
	tries(t, s, 1, 10, 16, api.ErrOld, 1)
	tries(t, s, 2, 10, 16, api.ErrOld, 1)
	tries(t, s, 2, 17, 16, api.ErrOld, 1)
	tries(t, s, 1, 10, 15, api.ErrTwice, 1)
	tries(t, s, 2, 10, 15, api.ErrFull, 1)
	tries(t, s, 2, 11, 16, api.OK, 1)
}

func TestP18_1TwiceAheadOfFull(t *testing.T) {
	s := strike.New(5, 2)
	tries(t, s, 1, 10, 10, api.OK, 1)
	tries(t, s, 1, 10, 10, api.ErrTwice, 1)
	tries(t, s, 2, 10, 10, api.OK, 2)
	tries(t, s, 1, 10, 10, api.ErrTwice, 2)
	tries(t, s, 2, 10, 10, api.ErrTwice, 2)
	tries(t, s, 3, 10, 10, api.ErrFull, 2)
	tries(t, s, 3, 10, 10, api.ErrFull, 2)
}

func TestP18_1AnotherTimeIsNoOtherNumber(t *testing.T) {
	s := strike.New(5, 3)
	tries(t, s, 1, 10, 10, api.OK, 1)
	tries(t, s, 1, 11, 11, api.ErrTwice, 1)
	tries(t, s, 1, 9, 11, api.ErrTwice, 1)
	// It keeps the time with which it was taken, and goes by that one.
	tries(t, s, 2, 15, 15, api.OK, 2)
	tries(t, s, 3, 16, 16, api.OK, 2)
	// Then nothing is known of it any more.
	tries(t, s, 1, 16, 16, api.OK, 3)
}

func TestP18_1WhatIsOldGoesAlsoWhereItIsRefused(t *testing.T) {
	s := strike.New(5, 3)
	tries(t, s, 1, 10, 10, api.OK, 1)
	tries(t, s, 2, 11, 12, api.OK, 2)
	tries(t, s, 3, 12, 12, api.OK, 3)
	// With ErrTwice the first one goes.
	tries(t, s, 3, 12, 16, api.ErrTwice, 2)
	tries(t, s, 4, 16, 16, api.OK, 3)
	// With ErrFull nothing that is not old goes; then the second one does, and there is room.
	tries(t, s, 5, 16, 16, api.ErrFull, 3)
	tries(t, s, 5, 16, 17, api.OK, 3)
	tries(t, s, 6, 18, 18, api.OK, 3)
	// With neither ErrArg nor ErrOld anything does.
	tries(t, s, 7, -1, 100, api.ErrArg, 3)
	tries(t, s, 7, 10, 100, api.ErrOld, 3)
	tries(t, s, 7, 101, 100, api.ErrOld, 3)
	tries(t, s, 7, 100, 100, api.OK, 1)
}

func TestP18_1WhatHasGoneStaysAway(t *testing.T) {
	for _, room := range []int{1, 2, 5} {
		s := strike.New(5, room)
		for n := range room {
			tries(t, s, api.Term(n+1), 10+n, 10+n, api.OK, n+1)
		}
		tries(t, s, 100, 15, 15, api.ErrFull, room)
		// The first one goes, and is not there any more at a time ahead of that either.
		tries(t, s, 100, 16, 16, api.OK, room)
		tries(t, s, 1, 10, 15, api.ErrFull, room)
	}
	// Of a store without room nothing can go.
	s := strike.New(5, 0)
	for now := range 20 {
		tries(t, s, 1, now, now, api.ErrFull, 0)
	}
}

func TestP18_1TimesThatFall(t *testing.T) {
	s := strike.New(5, 2)
	tries(t, s, 1, 10, 12, api.OK, 1)
	tries(t, s, 2, 3, 3, api.OK, 2)
	tries(t, s, 2, 3, 8, api.ErrTwice, 2)
	tries(t, s, 1, 10, 9, api.ErrOld, 2)
	// What was made first goes first, though it was taken last.
	tries(t, s, 3, 9, 9, api.OK, 2)
	tries(t, s, 1, 10, 15, api.ErrTwice, 1)
}

func TestP18_1WindowBelowZero(t *testing.T) {
	for _, window := range []int{math.MinInt, -latest, -5, -1, 0} {
		s := strike.New(window, 1)
		tries(t, s, 1, 10, 10, api.OK, 1)
		tries(t, s, 1, 10, 10, api.ErrTwice, 1)
		tries(t, s, 1, 10, 11, api.ErrOld, 1)
		tries(t, s, 2, 11, 11, api.OK, 1)
		tries(t, s, 1, 11, 11, api.ErrFull, 1)
	}
}

func TestP18_1RoomBelowZero(t *testing.T) {
	for _, room := range []int{math.MinInt, -maxRoom, -1, 0} {
		s := strike.New(5, room)
		tries(t, s, 1, 10, 10, api.ErrFull, 0)
		tries(t, s, 1, 10, 16, api.ErrOld, 0)
		tries(t, s, 1, -1, 16, api.ErrArg, 0)
		tries(t, s, 1, 16, 16, api.ErrFull, 0)
	}
}

func TestP18_1GreatestRoom(t *testing.T) {
	for _, x := range []struct{ room, want int }{
		{maxRoom - 1, maxRoom - 1}, {maxRoom, maxRoom}, {maxRoom + 1, maxRoom}, {1 << 32, maxRoom}, {1<<32 + 1, maxRoom}, {math.MaxInt, maxRoom},
	} {
		s := strike.New(5, x.room)
		for n := 1; n <= x.want; n++ {
			if e := s.Try(api.Term(n), 10, 10); e != api.OK {
				t.Fatalf("P18.1: the number %d of a room of %d: %d", n, x.room, e)
			}
		}
		tries(t, s, api.Term(x.want+1), 10, 10, api.ErrFull, x.want)
		tries(t, s, api.Term(x.want), 10, 15, api.ErrTwice, x.want)
		tries(t, s, api.Term(x.want+1), 16, 16, api.OK, 1)
	}
}

func TestP18_1AnyNumber(t *testing.T) {
	// Of a number nothing is asked but if it is held.
	all := []api.Term{math.MinInt, -1 << 32, -1, 0, 1, maxRoom, maxRoom + 1, 1 << 32, 1<<32 + 1, math.MaxInt}
	s := strike.New(5, len(all))
	for i, n := range all {
		tries(t, s, n, 10, 10, api.OK, i+1)
	}
	for _, n := range all {
		tries(t, s, n, 10, 10, api.ErrTwice, len(all))
	}
	tries(t, s, 2, 10, 10, api.ErrFull, len(all))
}

func TestP18_1GreatTimes(t *testing.T) {
	for _, window := range []int{0, 1, latest - 1, latest, math.MaxInt - 1, math.MaxInt} {
		s := strike.New(window, 3)
		tries(t, s, 1, latest, latest, api.OK, 1)
		tries(t, s, 1, latest, latest, api.ErrTwice, 1)
		want, many := api.ErrOld, 1
		if window >= latest {
			want, many = api.OK, 2
		}
		tries(t, s, 2, 0, latest, want, many)
		want, many = api.ErrOld, 1
		if window >= latest-1 {
			want, many = api.OK, 2
		}
		s = strike.New(window, 3)
		tries(t, s, 1, latest, latest, api.OK, 1)
		tries(t, s, 3, 1, latest, want, many)
	}
}

func TestR1StoresTakeAnyTimes(t *testing.T) {
	times := []int{math.MinInt, math.MinInt + 1, -1 << 62, -1, 0, 1, 5, 1 << 31, latest, 1 << 62, math.MaxInt - 1, math.MaxInt}
	for _, window := range times {
		for _, room := range times {
			s := strike.New(window, room)
			for i, made := range times {
				for _, now := range times {
					s.Try(api.Term(i%3), made, now)
					if many := s.Many(); many < 0 || many > max(room, 0) || many > 3 {
						t.Fatalf("R1: a room of %d holds %d", room, many)
					}
				}
			}
		}
	}
}

func TestR5StoresStandAlone(t *testing.T) {
	a, b := strike.New(5, 2), strike.New(5, 2)
	tries(t, a, 1, 10, 10, api.OK, 1)
	tries(t, b, 1, 10, 10, api.OK, 1)
	tries(t, b, 2, 20, 20, api.OK, 1)
	tries(t, a, 1, 10, 10, api.ErrTwice, 1)
	tries(t, strike.New(5, 2), 1, 10, 10, api.OK, 1)
}

// item is a number that a model holds.
type item struct {
	n    api.Term
	made int
}

// model is a store by the words, with no thrift.
type model struct {
	window, room int
	items        []item
}

// try tells what a store tells.
func (m *model) try(n api.Term, made, now int) api.Errno {
	if made < 0 || now < 0 {
		return api.ErrArg
	}
	if now < made || made < now-m.window {
		return api.ErrOld
	}
	var left []item
	for _, x := range m.items {
		if x.made >= now-m.window {
			left = append(left, x)
		}
	}
	m.items = left
	for _, x := range m.items {
		if x.n == n {
			return api.ErrTwice
		}
	}
	if len(m.items) >= m.room {
		return api.ErrFull
	}
	m.items = append(m.items, item{n, made})
	return api.OK
}

func TestP18_1AsTheWordsSay(t *testing.T) {
	chance := rand.New(rand.NewPCG(18, 1))
	for range 1000 {
		window, room := chance.IntN(20), chance.IntN(12)
		s, m := strike.New(window, room), &model{window: window, room: room}
		numbers, now := 1+chance.IntN(20), chance.IntN(5)
		for range 200 {
			// Mostly onward, at times backward, and some times below 0 at the beginning.
			now += chance.IntN(5) - 1 - chance.IntN(2)
			n, made := api.Term(1+chance.IntN(numbers)), now-chance.IntN(window+4)+chance.IntN(3)
			want := m.try(n, made, now)
			tries(t, s, n, made, now, want, len(m.items))
		}
	}
}
