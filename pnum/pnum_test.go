package pnum_test

import (
	"math"
	"math/rand/v2"
	"testing"

	"shibboleth/pnum"
)

const top = 1<<62 - 1

// noNumbers are ints that no packet's number is.
var noNumbers = []int{math.MinInt, math.MinInt + 1, -1 << 62, -256, -2, -1, top + 1, top + 2, math.MaxInt - 1, math.MaxInt}

// noWidths are ints that no width is; some would be one, if only their lowest bits were looked at.
var noWidths = []int{math.MinInt, math.MinInt + 1, -1 << 32, -256, -4, -2, -1, 0, 5, 6, 7, 8, 9, 64, 256, 257, 1<<32 + 1, math.MaxInt - 1, math.MaxInt}

// turns are how many numbers each width tells apart; there is none of width 0.
var turns = [5]int{0, 256, 65536, 16777216, 4294967296}

// needs holds what Width tells.
func needs(t *testing.T, n, acked, want int) {
	t.Helper()
	if got := pnum.Width(n, acked); got != want {
		t.Errorf("Width(%d, %d): %d, not %d", n, acked, got, want)
	}
}

// cuts holds what Cut tells.
func cuts(t *testing.T, n, width, want int) {
	t.Helper()
	if got := pnum.Cut(n, width); got != want {
		t.Errorf("Cut(%d, %d): %d, not %d", n, width, got, want)
	}
}

// tells holds what Full tells.
func tells(t *testing.T, greatest, cut, width, want int) {
	t.Helper()
	if got := pnum.Full(greatest, cut, width); got != want {
		t.Errorf("Full(%d, %d, %d): %d, not %d", greatest, cut, width, got, want)
	}
}

func TestP9_1WidthWhereItTurns(t *testing.T) {
	for _, x := range []struct{ distance, want int }{
		{1, 1}, {2, 1}, {127, 1}, {128, 1},
		{129, 2}, {130, 2}, {255, 2}, {256, 2}, {257, 2}, {32767, 2}, {32768, 2},
		{32769, 3}, {65535, 3}, {65536, 3}, {65537, 3}, {8388607, 3}, {8388608, 3},
		{8388609, 4}, {16777216, 4}, {16777217, 4}, {2147483647, 4}, {2147483648, 4},
		{2147483649, 0}, {4294967295, 0}, {4294967296, 0}, {4294967297, 0},
		{1 << 39, 0}, {1<<39 + 1, 0}, {1 << 61, 0}, {1<<62 - 1, 0},
	} {
		// From none that was acknowledged, from the first one, from some in between, and up to the last one.
		for _, acked := range []int{-1, 0, 1, 200, 0xabe8b3, 1<<31 + 5, 1 << 61, top - x.distance} {
			if n := acked + x.distance; n <= top {
				needs(t, n, acked, x.want)
			}
		}
	}
}

func TestP9_1WidthOfFirstAndLast(t *testing.T) {
	needs(t, 0xac5c02, 0xabe8b3, 2)
	needs(t, 0, -1, 1)
	needs(t, 1, -1, 1)
	needs(t, 1, 0, 1)
	needs(t, 127, -1, 1)
	needs(t, 128, -1, 2)
	needs(t, 128, 0, 1)
	needs(t, top, top-1, 1)
	needs(t, top, top-128, 1)
	needs(t, top, top-129, 2)
	needs(t, top, 0, 0)
	// Here twice the distance is above the greatest int.
	needs(t, top, -1, 0)
}

func TestP9_1WidthOfNoNumber(t *testing.T) {
	for _, n := range noNumbers {
		for _, acked := range []int{-1, 0, 1, 1 << 61, top - 1, top, n - 1, n, n + 1} {
			needs(t, n, acked, 0)
		}
	}
}

func TestP9_1WidthOfWrongAcked(t *testing.T) {
	for _, n := range []int{0, 1, 2, 127, 128, 255, 256, 65536, 1 << 33, 1 << 61, top - 1, top} {
		for _, acked := range []int{math.MinInt, math.MinInt + 1, -1 << 62, -1 << 32, -256, -129, -3, -2, n, n + 1, n + 127, n + 256, top, top + 1, math.MaxInt} {
			if acked < -1 || acked >= n {
				needs(t, n, acked, 0)
			}
		}
	}
}

func TestP9_1CutTellsTheRest(t *testing.T) {
	for _, x := range []struct {
		n    int
		want [5]int
	}{
		{0, [5]int{}},
		{1, [5]int{0, 1, 1, 1, 1}},
		{255, [5]int{0, 255, 255, 255, 255}},
		{256, [5]int{0, 0, 256, 256, 256}},
		{0x12345, [5]int{0, 0x45, 0x2345, 0x12345, 0x12345}},
		{65535, [5]int{0, 255, 65535, 65535, 65535}},
		{65536, [5]int{0, 0, 0, 65536, 65536}},
		{1<<24 - 1, [5]int{0, 255, 65535, 1<<24 - 1, 1<<24 - 1}},
		{1 << 24, [5]int{0, 0, 0, 0, 1 << 24}},
		{1<<32 - 1, [5]int{0, 255, 65535, 1<<24 - 1, 1<<32 - 1}},
		{1 << 32, [5]int{}},
		{0x0123456789abcdef, [5]int{0, 0xef, 0xcdef, 0xabcdef, 0x89abcdef}},
		{1 << 61, [5]int{}},
		{top - 1, [5]int{0, 254, 65534, 1<<24 - 2, 1<<32 - 2}},
		{top, [5]int{0, 255, 65535, 1<<24 - 1, 1<<32 - 1}},
	} {
		for width, want := range x.want {
			cuts(t, x.n, width, want)
		}
	}
}

func TestP9_1CutOfWrongArguments(t *testing.T) {
	for _, width := range noWidths {
		for _, n := range []int{0, 1, 5, 255, 65536, 0x0123456789abcdef, top} {
			cuts(t, n, width, 0)
		}
	}
	for _, n := range noNumbers {
		for width := range 6 {
			cuts(t, n, width, 0)
		}
	}
	cuts(t, -255, 1, 0)
	cuts(t, 1<<62+5, 1, 0)
}

func TestP9_1FullAtEachWidth(t *testing.T) {
	tells(t, 0xa82f30ea, 0x9b32, 2, 0xa82f9b32)
	for width := 1; width <= 4; width++ {
		turn := turns[width]
		half := turn / 2
		// The first packet's number is expected: there is nothing below it.
		tells(t, -1, 0, width, 0)
		tells(t, -1, half, width, half)
		tells(t, -1, half+1, width, half+1)
		tells(t, -1, turn-1, width, turn-1)
		for _, base := range []int{turn, 2 * turn, 1 << 40, 1 << 61, top + 1 - 2*turn} {
			tells(t, base-1, 0, width, base)        // the one that is expected
			tells(t, base-1, turn-1, width, base-1) // the one that came last
			tells(t, base-1, half-1, width, base+half-1)
			tells(t, base-1, half, width, base+half) // as near as the one that is half a turn below
			tells(t, base-1, half+1, width, base-half+1)
			tells(t, base+half-2, 0, width, base)      // the one above is farther by one
			tells(t, base+half-1, 0, width, base+turn) // both are as near
			tells(t, base+half, 0, width, base+turn)   // the one above is nearer
		}
	}
}

func TestP9_1FullAtBothEnds(t *testing.T) {
	for width := 1; width <= 4; width++ {
		turn := turns[width]
		half := turn / 2
		// The nearest one would be below 0.
		tells(t, 0, turn-1, width, turn-1)
		tells(t, 0, half+2, width, half+2)
		tells(t, half-2, turn-1, width, turn-1)
		tells(t, half-3, turn-2, width, turn-2)
		tells(t, half, turn-1, width, turn-1)
		tells(t, 0, 0, width, 0)
		// The nearest one would be above 2^62 - 1, or as near there.
		tells(t, top, 0, width, top+1-turn)
		tells(t, top, 1, width, top+2-turn)
		tells(t, top, half-1, width, top-half)
		tells(t, top, half, width, top+1-half)
		tells(t, top, turn-1, width, top)
		tells(t, top-1, 0, width, top+1-turn)
		tells(t, top-1, turn-1, width, top)
		tells(t, top-half, 0, width, top+1-turn)
		tells(t, top-half+1, 0, width, top+1-turn)
		tells(t, top-half, half, width, top+1-half)
	}
}

func TestP9_1FullOfWrongArguments(t *testing.T) {
	for _, greatest := range noNumbers {
		for width := 1; greatest != -1 && width <= 4; width++ {
			for _, cut := range []int{0, 1, 255} {
				tells(t, greatest, cut, width, -1)
			}
		}
	}
	for _, greatest := range []int{-1, 0, 5, 256, 1 << 61, top} {
		for _, width := range noWidths {
			for _, cut := range []int{-1, 0, 1, 255, 1 << 32} {
				tells(t, greatest, cut, width, -1)
			}
		}
		for width := 1; width <= 4; width++ {
			turn := turns[width]
			for _, cut := range []int{turn, turn + 1, 2 * turn, 1 << 40, top, top + 1, math.MaxInt, -1, -2, 1 - turn, -turn, -turn - 1, -1 << 62, math.MinInt + 1, math.MinInt} {
				tells(t, greatest, cut, width, -1)
			}
		}
	}
}

// isNumber: may a packet have that number?
func isNumber(n int) bool {
	return n >= 0 && n <= top
}

// walked goes outward from what is expected, till a number has the rest: that is the words' one, step by step.
func walked(greatest, cut, width int) int {
	for far := 0; ; far++ {
		for _, n := range []int{greatest + 1 + far, greatest + 1 - far} {
			if isNumber(n) && n%turns[width] == cut {
				return n
			}
		}
	}
}

func TestP9_1FullIsTheFirstOneOutward(t *testing.T) {
	for _, base := range []int{-1, 1 << 40, 1<<61 - 300, top - 600} {
		for greatest := base; greatest <= base+600; greatest++ {
			for cut := range 256 {
				tells(t, greatest, cut, 1, walked(greatest, cut, 1))
			}
		}
	}
	for _, greatest := range []int{-1, 0, 32766, 32767, 32768, 65535, 98303, 1<<61 + 12345, top - 32768, top - 32767, top - 1, top} {
		for cut := 0; cut < 65536; cut += 97 {
			tells(t, greatest, cut, 2, walked(greatest, cut, 2))
		}
	}
}

// far tells how far a number is from what is expected.
func far(n, greatest int) int {
	return max(n-greatest-1, greatest+1-n)
}

// nearest holds that what Full tells has the rest, and that neither of its neighbours with that rest has to be told in its place.
func nearest(t *testing.T, greatest, cut, width int) {
	t.Helper()
	n, turn := pnum.Full(greatest, cut, width), turns[width]
	above, below := n+turn, n-turn
	switch {
	case !isNumber(n) || n%turn != cut:
		t.Errorf("Full(%d, %d, %d): %d", greatest, cut, width, n)
	case isNumber(above) && far(above, greatest) <= far(n, greatest):
		t.Errorf("Full(%d, %d, %d): %d, not the one above", greatest, cut, width, n)
	case isNumber(below) && far(below, greatest) < far(n, greatest):
		t.Errorf("Full(%d, %d, %d): %d, not the one below", greatest, cut, width, n)
	}
}

// anyNumber tells a number, the small and the great ones as often, up to a bound.
func anyNumber(chance *rand.Rand, bound int) int {
	n := int(chance.Uint64()>>2) >> chance.IntN(62)
	if chance.IntN(2) == 0 {
		n = top - n
	}
	return n % bound
}

func TestP9_1FullIsTheNearestOne(t *testing.T) {
	chance := rand.New(rand.NewPCG(9, 1))
	for range 200000 {
		width := 1 + chance.IntN(4)
		greatest := anyNumber(chance, top+1) - chance.IntN(2)
		nearest(t, greatest, anyNumber(chance, turns[width]), width)
		// A cut by half a turn, and what is beside it.
		half := (greatest + 1 + turns[width]/2) % turns[width]
		nearest(t, greatest, half, width)
		nearest(t, greatest, (half+1)%turns[width], width)
	}
}

// goes holds that a number that is cut to the width that it needs is told again, whatever came last.
func goes(t *testing.T, n, acked int, last ...int) {
	t.Helper()
	width := pnum.Width(n, acked)
	for _, greatest := range last {
		if got := pnum.Full(greatest, pnum.Cut(n, width), width); got != n {
			t.Errorf("P9.2: %d, behind %d acknowledged and %d: told again as %d (width %d)", n, acked, greatest, got, width)
		}
	}
}

func TestP9_2WhatIsCutIsToldAgain(t *testing.T) {
	for _, acked := range []int{-1, 0, 1, 126, 127, 128, 255, 256, 65535, 1 << 24, 1<<32 - 1, 1 << 61, top - 1<<31 - 1, top - 1<<31, top - 32768, top - 128, top - 1} {
		for width := 1; width <= 4; width++ {
			for _, distance := range []int{1, 2, 3, turns[width]/2 - 1, turns[width] / 2, turns[width]/2 + 1} {
				n := acked + distance
				if n > top || distance > 1<<31 {
					continue
				}
				goes(t, n, acked, acked, acked+(distance-1)/2, n-1)
			}
		}
	}
}

func TestP9_2AllNumbersOfTheLeastWidths(t *testing.T) {
	for _, base := range []int{-1, 200, 65400, 1 << 45, top - 700} {
		for acked := base; acked < base+300; acked += 7 {
			for n := acked + 1; n <= acked+400; n++ {
				goes(t, n, acked, acked, (acked+n)/2, n-1)
			}
		}
	}
}

func TestP9_2ByChance(t *testing.T) {
	chance := rand.New(rand.NewPCG(9, 2))
	for range 200000 {
		acked := anyNumber(chance, top) - chance.IntN(2)
		n := acked + 1 + anyNumber(chance, min(top-acked, 1<<31))
		greatest := acked + anyNumber(chance, n-acked)
		goes(t, n, acked, acked, greatest, n-1)
	}
}
