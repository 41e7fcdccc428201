package window_test

import (
	"math"
	"math/rand/v2"
	"testing"

	"shibboleth/window"
)

const top = 1<<62 - 1

// noNumbers are ints that are no number, the last ones above all that a window may have.
var noNumbers = []int{math.MinInt, math.MinInt + 1, -1 << 62, -1 << 61, -65, -64, -63, -2, -1, top + 1, top + 2, top + 64, math.MaxInt - 1, math.MaxInt}

// marks holds what Fresh, Mark and, behind it, Greatest tell of a number.
func marks(t *testing.T, w *window.Window, n int, want bool) {
	t.Helper()
	greatest := w.Greatest()
	for range 2 {
		// Asked twice: asking marks nothing.
		if got := w.Fresh(n); got != want {
			t.Errorf("Fresh(%d) behind %d: %t", n, greatest, got)
		}
	}
	if got := w.Greatest(); got != greatest {
		t.Errorf("Greatest behind Fresh(%d): %d, not %d", n, got, greatest)
	}
	if got := w.Mark(n); got != want {
		t.Errorf("Mark(%d) behind %d: %t", n, greatest, got)
	}
	if want {
		greatest = max(greatest, n)
	}
	if got := w.Greatest(); got != greatest {
		t.Errorf("Greatest behind Mark(%d): %d, not %d", n, got, greatest)
	}
}

// having is a window in which numbers are marked, one behind the other.
func having(numbers ...int) *window.Window {
	w := &window.Window{}
	for _, n := range numbers {
		w.Mark(n)
	}
	return w
}

// fresh holds of which numbers, from below up to another one, a window says that they are fresh.
func fresh(t *testing.T, w *window.Window, from, to int, is func(n int) bool) {
	t.Helper()
	for n := from; n <= to; n++ {
		if got := w.Fresh(n); got != is(n) {
			t.Errorf("Fresh(%d) behind %d: %t", n, w.Greatest(), got)
		}
	}
}

func TestP10_1EmptyWindow(t *testing.T) {
	w := &window.Window{}
	if got := w.Greatest(); got != -1 {
		t.Errorf("Greatest: %d", got)
	}
	for _, n := range []int{0, 1, 62, 63, 64, 65, 255, 1 << 61, top - 1, top} {
		if !w.Fresh(n) {
			t.Errorf("Fresh(%d): no", n)
		}
		marks(t, &window.Window{}, n, true)
	}
	var value window.Window
	marks(t, &value, 0, true)
	marks(t, &value, 0, false)
}

func TestP10_1NoWindow(t *testing.T) {
	var w *window.Window
	for _, n := range append([]int{0, 1, 64, 1 << 61, top}, noNumbers...) {
		if w.Fresh(n) || w.Mark(n) || w.Fresh(n) || w.Greatest() != -1 {
			t.Errorf("%d in no window", n)
		}
	}
}

func TestP10_1NoNumbers(t *testing.T) {
	for _, marked := range [][]int{nil, {0}, {5, 3}, {63}, {64}, {100}, {1 << 61}, {top - 1}, {top}} {
		w := having(marked...)
		for _, n := range noNumbers {
			marks(t, w, n, false)
		}
		// And what is no number left no trace.
		for _, n := range marked {
			marks(t, w, n, false)
		}
		if len(marked) == 0 {
			marks(t, w, 0, true)
		}
	}
}

func TestP10_1ExampleOfTheChapter(t *testing.T) {
	w := &window.Window{}
	marks(t, w, 100, true)
	marks(t, w, 37, true)
	marks(t, w, 36, false)
}

func TestP10_1HowFarBehind(t *testing.T) {
	for _, greatest := range []int{64, 65, 100, 127, 128, 1000, 1 << 32, 1 << 61, top - 1, top} {
		marks(t, having(greatest), greatest-1, true)
		marks(t, having(greatest), greatest-62, true)
		marks(t, having(greatest), greatest-63, true)
		marks(t, having(greatest), greatest-64, false)
		marks(t, having(greatest), greatest-65, false)
		w := having(greatest)
		marks(t, w, greatest-63, true)
		for behind := range 3 {
			marks(t, w, greatest-63-behind, false)
		}
		fresh(t, w, greatest-200, min(greatest+200, top), func(n int) bool {
			return n > greatest || n >= 0 && n > greatest-63 && n != greatest
		})
	}
}

func TestP10_1NearTheFirstNumbers(t *testing.T) {
	for greatest := range 64 {
		// All numbers are in reach yet.
		w := having(greatest)
		for n := greatest - 1; n >= 0; n-- {
			marks(t, w, n, true)
		}
		fresh(t, w, -70, greatest+70, func(n int) bool { return n > greatest })
	}
}

func TestP10_1Jumps(t *testing.T) {
	for _, first := range []int{0, 1, 70, 1 << 40} {
		for _, jump := range []int{1, 2, 62, 63, 64, 65, 66, 127, 128, 129, 1 << 32, 1 << 61} {
			w := having(first)
			marks(t, w, first+jump, true)
			marks(t, w, first+jump, false)
			// The first one is marked, or out of reach: it is not fresh any more. What else is in reach is.
			marks(t, w, first, false)
			fresh(t, w, first+jump-70, first+jump+70, func(n int) bool {
				return n >= 0 && n != first && n != first+jump && n > first+jump-64
			})
		}
	}
}

func TestP10_1MarksMoveAlong(t *testing.T) {
	// Each second number, ahead of jumps that let some of them go.
	for jump := 1; jump <= 70; jump++ {
		w := &window.Window{}
		for n := 1000; n < 1064; n += 2 {
			marks(t, w, n, true)
		}
		marks(t, w, 1062+jump, true)
		fresh(t, w, 900, 1062+jump+5, func(n int) bool {
			marked := n%2 == 0 && n >= 1000 && n <= 1062 || n == 1062+jump
			return n > 1062+jump-64 && !marked
		})
	}
}

func TestP10_1LastNumbers(t *testing.T) {
	w := having(top - 64)
	marks(t, w, top-1, true)
	marks(t, w, top-64, false)
	marks(t, w, top, true)
	marks(t, w, top, false)
	marks(t, w, top-63, true)
	marks(t, w, top-64, false)
	marks(t, w, top+1, false)
	marks(t, w, 0, false)
}

func TestR5WindowsStandAlone(t *testing.T) {
	a := having(5)
	copied := *a
	marks(t, a, 6, true)
	marks(t, &copied, 6, true)
	marks(t, &window.Window{}, 5, true)
}

// model is a window by the words: which numbers were marked, with no thrift.
type model struct {
	marked   map[int]bool
	greatest int
}

// mark tells if a number is fresh, and marks it, if it is.
func (m *model) mark(n int) bool {
	if n < 0 || n > top || n <= m.greatest-64 || m.marked[n] {
		return false
	}
	m.marked[n] = true
	m.greatest = max(m.greatest, n)
	return true
}

func TestP10_1AsTheWordsSay(t *testing.T) {
	chance := rand.New(rand.NewPCG(10, 1))
	for range 500 {
		w, m := &window.Window{}, &model{marked: map[int]bool{}, greatest: -1}
		// Some runs begin near the end of the numbers.
		base := []int{0, 0, 1 << 61, top - 300}[chance.IntN(4)]
		near := 1 << (1 + chance.IntN(8))
		for range 400 {
			n := max(base, m.greatest) + chance.IntN(2*near) - near - near/4
			marks(t, w, n, m.mark(n))
		}
	}
}

func TestP10_2NoneIsMarkedTwice(t *testing.T) {
	chance := rand.New(rand.NewPCG(10, 2))
	for range 200 {
		w, times := &window.Window{}, map[int]int{}
		for range 2000 {
			n := chance.IntN(300)
			if w.Mark(n) {
				times[n]++
			}
			if times[n] > 1 {
				t.Fatalf("P10.2: %d is marked twice", n)
			}
		}
	}
}

func TestP10_2NoneIsMarkedTwiceBehindAnyJump(t *testing.T) {
	for _, jump := range []int{1, 31, 32, 33, 62, 63, 64, 65, 100, 127, 128, 1 << 20, 1 << 61} {
		var marked []int
		w := &window.Window{}
		for n := 0; n < 1<<61 && len(marked) < 200; n += jump {
			if !w.Mark(n) {
				t.Errorf("P10.2: %d, above all others, is not fresh", n)
			}
			marked = append(marked, n)
			for _, old := range marked {
				if w.Fresh(old) || w.Mark(old) {
					t.Fatalf("P10.2: %d is marked twice (jumps by %d)", old, jump)
				}
			}
		}
	}
}

func TestP10_2OneAboveAllIsFresh(t *testing.T) {
	for _, greatest := range []int{-1, 0, 1, 63, 64, 100, 1 << 32, 1 << 61, top - 65, top - 1} {
		for _, above := range []int{1, 2, 63, 64, 65, 66, 1 << 31, 1 << 61, top - greatest} {
			n := greatest + above
			if n > top {
				continue
			}
			w := &window.Window{}
			for m := max(0, greatest-70); m <= greatest; m++ {
				w.Mark(m)
			}
			marks(t, w, n, true)
			marks(t, w, n, false)
		}
	}
}
