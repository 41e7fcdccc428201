package strike_test

import (
	"math/rand/v2"
	"testing"

	"shibboleth/api"
	"shibboleth/strike"
)

// A number is made once: it is always tried with the time at which it was.
func TestP18_2NoNumberIsTakenTwice(t *testing.T) {
	chance := rand.New(rand.NewPCG(18, 2))
	for range 300 {
		window, room := chance.IntN(30)-1, 1+chance.IntN(20)
		s := strike.New(window, room)
		var made []int
		taken := map[int]int{}
		for now := chance.IntN(10); now < 300; now += chance.IntN(4) {
			made = append(made, now)
			// The new one, and some of the old ones: more often those that were made of late.
			for range 5 {
				i := len(made) - 1 - min(chance.IntN(len(made)), chance.IntN(len(made)))
				if s.Try(api.Term(i+1), made[i], now) == api.OK {
					taken[i]++
				}
				if taken[i] > 1 {
					t.Fatalf("P18.2: the number made at %d is taken twice, at last at %d (window %d, room %d)", made[i], now, window, room)
				}
			}
		}
	}
}

// One that was taken is tried again at each time behind it, whatever else was tried in between.
func TestP18_2NotWithinTheWindowAndNotBehindIt(t *testing.T) {
	for window := range 12 {
		for _, step := range []int{0, 1, 2, 5, 11, 12, 13, 40} {
			for _, age := range []int{0, window / 2, window} {
				s := strike.New(window, 3)
				if e := s.Try(1, 100, 100+age); e != api.OK {
					t.Fatalf("P18.2: the first time: %d", e)
				}
				for i, now := 0, 100+age; i < 40; i, now = i+1, now+step {
					want := api.ErrTwice
					if now > 100+window {
						want = api.ErrOld
					}
					if e := s.Try(1, 100, now); e != want {
						t.Errorf("P18.2: made at 100, tried again at %d, with the window %d: %d, not %d", now, window, e, want)
					}
					s.Try(api.Term(2+i), now, now)
				}
			}
		}
	}
}

// And not in a store that was full, and has room again.
func TestP18_2NotBehindAFullStore(t *testing.T) {
	s := strike.New(10, 4)
	taken := map[api.Term]int{}
	for now := range 200 {
		for back := range 30 {
			made := now - back
			n := api.Term(made + 1)
			if s.Try(n, made, now) == api.OK {
				taken[n]++
			}
		}
		if s.Many() > 4 {
			t.Fatalf("P18.2: %d are held", s.Many())
		}
	}
	for n, times := range taken {
		if times > 1 {
			t.Errorf("P18.2: %d is taken %d times", n, times)
		}
	}
	// There is room for four in each eleven times.
	if len(taken) < 60 {
		t.Errorf("P18.2: just %d are taken", len(taken))
	}
}
