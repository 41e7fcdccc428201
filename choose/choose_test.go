package choose_test

import (
	"iter"
	"math"
	"slices"
	"testing"

	"shibboleth/api"
	"shibboleth/choose"
)

// list is a list of versions.
func list(l ...int) []int {
	return l
}

// picks holds what Pick tells.
func picks(t *testing.T, server, client []int, want int) {
	t.Helper()
	if got := choose.Pick(server, client); got != want {
		t.Errorf("P19.1: Pick(%v, %v): %d, not %d", server, client, got, want)
	}
}

// reacts holds what React tells.
func reacts(t *testing.T, told, offered []int, used, want int, e api.Errno) {
	t.Helper()
	if got, gotE := choose.React(told, offered, used); got != want || gotE != e {
		t.Errorf("P19.1: React(%v, %v, %d): %d, %d, not %d, %d", told, offered, used, got, gotE, want, e)
	}
}

// verifies holds what Verify tells.
func verifies(t *testing.T, offered, server []int, got int, want api.Errno) {
	t.Helper()
	if e := choose.Verify(offered, server, got); e != want {
		t.Errorf("P19.1: Verify(%v, %v, %d): %d, not %d", offered, server, got, e, want)
	}
}

// lists goes through all lists of at most so many versions, each from 0 to greatest.
func lists(most, greatest int) iter.Seq[[]int] {
	return func(yield func([]int) bool) {
		for waiting := [][]int{nil}; len(waiting) > 0; waiting = waiting[1:] {
			l := waiting[0]
			if !yield(l) {
				return
			}
			if len(l) == most {
				continue
			}
			for v := range greatest + 1 {
				waiting = append(waiting, slices.Concat(l, list(v)))
			}
		}
	}
}

// common is the first of these that is one of those, by the words; false, if none is.
func common(these, those []int) (int, bool) {
	for _, x := range these {
		for _, y := range those {
			if x == y {
				return x, true
			}
		}
	}
	return 0, false
}

// has: is a version in a list?
func has(l []int, v int) bool {
	_, is := common(list(v), l)
	return is
}

func TestP19_1ExamplesOfTheChapter(t *testing.T) {
	picks(t, list(3, 2, 1), list(1, 2), 2)
	reacts(t, list(2, 1), list(3, 1, 2), 3, 1, api.OK)
}

func TestP19_1Pick(t *testing.T) {
	for _, x := range []struct {
		server, client []int
		want           int
	}{
		{nil, nil, 0}, {list(), list(), 0}, {list(1), nil, 0}, {nil, list(1), 0}, {list(1), list(), 0},
		{list(1), list(1), 1}, {list(1), list(2), 0}, {list(1, 2), list(3, 4), 0},
		// What the server likes best counts, whatever the client does.
		{list(1, 2, 3), list(3, 2, 1), 1}, {list(3, 2, 1), list(1, 2, 3), 3}, {list(2, 1), list(1, 2), 2},
		{list(9, 8, 2, 1), list(1, 2), 2}, {list(9, 8, 7), list(1, 2, 7), 7}, {list(7, 8, 9), list(9), 9},
		{list(2, 2, 1), list(1, 1, 2, 2), 2}, {list(1), list(5, 1, 5), 1},
		{list(1<<32-1, 1), list(1, 1<<32-1), 1<<32 - 1},
		// One alike in its lowest bits alone is another one.
		{list(1<<32+1, 257), list(1), 0}, {list(1), list(1<<32+1, 257, -1), 0},
		{list(math.MinInt, 1), list(1), 1}, {list(math.MinInt, 1), list(1, math.MinInt), math.MinInt}, {list(-1), list(1), 0},
		{list(math.MaxInt), list(math.MaxInt), math.MaxInt},
		{list(0, 1), list(1), 1}, {list(0, 1), list(1, 0), 0}, {list(1, 0), list(0), 0},
	} {
		picks(t, x.server, x.client, x.want)
	}
}

func TestP19_1React(t *testing.T) {
	for _, x := range []struct {
		told, offered []int
		used, want    int
		e             api.Errno
	}{
		// What the client likes best counts, whatever the server does.
		{list(1, 2), list(3, 2, 1), 3, 2, api.OK}, {list(2, 1), list(3, 1, 2), 3, 1, api.OK}, {list(1), list(3, 2, 1), 3, 1, api.OK},
		{list(9, 8, 1), list(3, 2, 1), 2, 1, api.OK}, {list(2, 2), list(2, 2), 1, 2, api.OK},
		{list(1), list(1), 1 << 32, 1, api.OK}, {list(1<<32 + 1), list(1, 1<<32+1), 1, 1<<32 + 1, api.OK},
		{list(math.MinInt, -1), list(-1, math.MinInt), 0, -1, api.OK}, {list(0), list(0), 1, 0, api.OK},
		// What was used is among what is told: there was no need to tell.
		{list(3), list(3), 3, 0, api.ErrProto}, {list(3, 1), list(3, 1), 3, 0, api.ErrProto}, {list(1, 3), list(3, 1), 3, 0, api.ErrProto},
		{list(1, 2, 3), list(1, 2, 3), 2, 0, api.ErrProto}, {list(3), list(1), 3, 0, api.ErrProto}, {list(3), nil, 3, 0, api.ErrProto},
		{list(0), nil, 0, 0, api.ErrProto}, {list(-1), list(-1), -1, 0, api.ErrProto},
		// Nothing that is offered is told.
		{nil, nil, 0, 0, api.ErrVersion}, {list(), list(), 1, 0, api.ErrVersion}, {nil, list(3, 1), 3, 0, api.ErrVersion},
		{list(7), list(3, 1), 3, 0, api.ErrVersion}, {list(1), nil, 3, 0, api.ErrVersion}, {list(7, 1<<32+1, -1), list(3, 1), 3, 0, api.ErrVersion},
	} {
		reacts(t, x.told, x.offered, x.used, x.want, x.e)
	}
}

func TestP19_1Verify(t *testing.T) {
	for _, x := range []struct {
		offered, server []int
		got             int
		want            api.Errno
	}{
		{list(1, 2), list(2, 1), 2, api.OK}, {list(1, 2), list(2, 1), 1, api.ErrVersion}, {list(2, 1), list(1, 2), 1, api.OK}, {list(2, 1), list(1, 2), 2, api.ErrVersion},
		{list(1), list(1), 1, api.OK}, {list(1), list(3, 2, 1), 1, api.OK}, {list(3, 2, 1), list(1), 1, api.OK},
		{list(1), list(3, 1), 3, api.ErrVersion}, {list(3, 1), list(1), 3, api.ErrVersion}, {list(1), list(1), 2, api.ErrVersion}, {list(1), list(1), -1, api.ErrVersion},
		{list(1), list(1), 1<<32 + 1, api.ErrVersion}, {list(1<<32 - 1), list(1<<32 - 1), 1<<32 - 1, api.OK},
		// The server picks none.
		{nil, nil, 0, api.ErrVersion}, {nil, nil, 1, api.ErrVersion}, {list(1), nil, 1, api.ErrVersion}, {nil, list(1), 1, api.ErrVersion},
		{list(1), list(2), 1, api.ErrVersion}, {list(1), list(2), 2, api.ErrVersion}, {list(1), list(2), 0, api.ErrVersion},
		// No version is 0, not even where both have it.
		{list(0), list(0), 0, api.ErrVersion}, {list(1, 0), list(0, 1), 0, api.ErrVersion}, {list(1, 0), list(0, 1), 1, api.ErrVersion}, {list(1), list(0, 1), 1, api.OK},
	} {
		verifies(t, x.offered, x.server, x.got, x.want)
	}
}

func TestP19_1AsTheWordsSay(t *testing.T) {
	for one := range lists(3, 4) {
		for other := range lists(3, 4) {
			first, is := common(one, other)
			picks(t, one, other, first)
			for v := range 6 {
				want, e := first, api.OK
				if has(other, v) {
					want, e = 0, api.ErrProto
				} else if !is {
					want, e = 0, api.ErrVersion
				}
				reacts(t, other, one, v, want, e)
				e = api.ErrVersion
				if is && v == first && v != 0 {
					e = api.OK
				}
				verifies(t, other, one, v, e)
			}
		}
	}
}

func TestP19_1LongLists(t *testing.T) {
	// Lists with one version in common alone: the last one of both.
	for _, size := range []int{api.MaxList, api.MaxList + 1, 500} {
		var odd, even []int
		for i := range size {
			odd, even = append(odd, 2*i+1), append(even, 2*i+2)
		}
		picks(t, odd, even, 0)
		reacts(t, odd, even, 0, 0, api.ErrVersion)
		odd, even = append(odd, 1<<32-1), append(even, 1<<32-1)
		picks(t, odd, even, 1<<32-1)
		reacts(t, odd, even, 0, 1<<32-1, api.OK)
		reacts(t, odd, even, 1<<32-1, 0, api.ErrProto)
		verifies(t, even, odd, 1<<32-1, api.OK)
		verifies(t, even, odd, 1, api.ErrVersion)
	}
}

// rows are lists with room behind them that could be written into.
func rows() (all, own, other []int) {
	all = list(3, 1, 2, 101, 102, 2, 4, 1, 103, 104)
	return all, all[:3], all[5:8]
}

func TestR4ListsStayAsTheyAre(t *testing.T) {
	all, own, other := rows()
	before := slices.Clone(all)
	for _, call := range []func(){
		func() { picks(t, own, other, 1) },
		func() { reacts(t, own, other, 4, 2, api.OK) },
		func() { reacts(t, own, other, 1, 0, api.ErrProto) },
		func() { reacts(t, own, list(9), 8, 0, api.ErrVersion) },
		func() { verifies(t, own, other, 2, api.OK) },
		func() { verifies(t, own, other, 4, api.ErrVersion) },
		func() { picks(t, own, own, 3) },
	} {
		// Twice: what is told hangs on nothing that was told ahead.
		for range 2 {
			call()
			if !slices.Equal(all, before) {
				t.Fatalf("R4: %v has become %v", before, all)
			}
		}
	}
}

// Whoever stands between may tell a client whatever he likes: it ends with what its server picks of all that it offers, or refuses.
func TestP19_2WhoVerifiesHasTheServersChoice(t *testing.T) {
	right := 0
	for offered := range lists(3, 3) {
		for server := range lists(3, 3) {
			want, is := common(server, offered)
			for told := range lists(2, 3) {
				for _, used := range offered {
					for _, got := range tried(told, offered, used) {
						if choose.Verify(offered, server, got) != api.OK {
							continue
						}
						if right++; !is || got != want || got == 0 {
							t.Errorf("P19.2: of %v offered to %v, told %v behind %d: %d, not %d", offered, server, told, used, got, want)
						}
					}
				}
			}
		}
	}
	if right == 0 {
		t.Error("P19.2: nobody verifies anything")
	}
}

// And what its server picks is not refused, however it came to it.
func TestP19_2TheServersChoiceVerifies(t *testing.T) {
	for offered := range lists(3, 3) {
		for server := range lists(3, 3) {
			got, want := choose.Pick(server, offered), api.OK
			if got == 0 {
				want = api.ErrVersion
			}
			if e := choose.Verify(offered, server, got); e != want {
				t.Errorf("P19.2: %v, offered to %v, which picks %d: %d", offered, server, got, e)
			}
		}
	}
}

// tried are the versions with which a client goes on: the used one, and what it reacts with.
func tried(told, offered []int, used int) []int {
	next, e := choose.React(told, offered, used)
	if e != api.OK {
		return list(used)
	}
	return list(used, next)
}
