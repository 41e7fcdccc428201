package audit_test

import (
	"slices"
	"strings"
	"testing"

	"shibboleth/api"
	"shibboleth/audit"
	"shibboleth/world"
)

// The acts, by the document's numbers.
const (
	serve = iota
	dial
	send
	reply
	poll
	come
	lead
	tick
	update
	end
	leak
	makes
	hand
)

// What he learns, by the number B of a leak.
const (
	ofSigning = iota
	ofTickets
	ofTraffic
	ofResumption
)

// do does an act of numbers.
func do(w *world.World, what int, l ...int) api.Term {
	x := world.Act{What: what}
	for i, at := range []*int{&x.A, &x.B, &x.C, &x.D, &x.E} {
		if i < len(l) {
			*at = l[i]
		}
	}
	return w.Do(x)
}

// rounds let all that is new come.
func rounds(w *world.World, many int) {
	for range many {
		was := w.Datagrams()
		do(w, poll)
		for n := was + 1; n <= w.Datagrams(); n++ {
			do(w, come, n)
		}
		do(w, tick)
	}
}

// served is a world with a server of the versions of a list, without a Retry.
func served(list int) *world.World {
	w := world.New()
	do(w, serve, list, 0, 100, 100, 100)
	return w
}

// talking is a world with a server of the version 1, and so many clients that are done, each with its talk.
func talking(t *testing.T, many int) *world.World {
	t.Helper()
	w := served(1)
	for range many {
		do(w, dial, 1, 1)
		rounds(w, 6)
	}
	for n := range many {
		if !guest(w, n+1).Talk.State().Confirmed || !w.Peers(1)[n].Talk.State().Done {
			t.Fatalf("P25: the client %d is not done: %v", n+1, audit.Lines(w))
		}
	}
	return w
}

// guest tells the n-th client.
func guest(w *world.World, n int) world.Client { return w.Clients()[n-1] }

// wants holds what is broken of a world against what should be.
func wants(t *testing.T, w *world.World, what string, words ...string) {
	t.Helper()
	if got := audit.Broken(w); !slices.Equal(got, words) {
		t.Errorf("P25.1: %s: broken: %v, not %v", what, got, words)
	}
}

// says holds the lines of a world against what they should be.
func says(t *testing.T, w *world.World, what string, lines ...string) {
	t.Helper()
	if got := audit.Lines(w); !slices.Equal(got, lines) {
		t.Errorf("P25.1: %s:\n%s\nnot\n%s", what, strings.Join(got, "\n"), strings.Join(lines, "\n"))
	}
}
