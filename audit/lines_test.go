package audit_test

import (
	"fmt"
	"math"
	"slices"
	"testing"

	"shibboleth/api"
	"shibboleth/audit"
	"shibboleth/world"
)

// The document's examples.
func TestP25_1Examples(t *testing.T) {
	w := world.New()
	do(w, serve, 1, 0, 9, 9, 9)
	do(w, dial, 1, 1)
	rounds(w, 6)
	says(t, w, "a client that is done", "c1 s1 v1 sent 0 took 0 done", "s1 t1 v1 sent 0 took 0 done")
	wants(t, w, "a client that is done")

	w = world.New()
	do(w, serve, 21, 1, 9, 9, 9)
	do(w, dial, 1, 12)
	rounds(w, 9)
	says(t, w, "a client that begins with the version 2", "c1 s1 v1 sent 0 took 0 done", "s1 t1 v1 sent 0 took 0 done")
	h := do(w, send, 1)
	rounds(w, 1)
	wants(t, w, "a term is sent")
	says(t, w, "a term is sent", "c1 s1 v1 sent 1 took 0 done", "s1 t1 v1 sent 0 took 1 done")
	if p := audit.Partners(w, 1); !slices.Equal(p, []int{1}) || w.Can(h) {
		t.Errorf("P25.1: the partners %v; he can make %d: %t", p, h, w.Can(h))
	}
	do(w, leak, 1, ofTraffic)
	wants(t, w, "the client's secrets are learnt", "secret")
}

func TestP25_1OfNil(t *testing.T) {
	for what, w := range map[string]*world.World{"nil": nil, "an empty world": world.New(), "a server alone": served(1)} {
		for _, n := range []int{-1, 0, 1, 2, math.MinInt, math.MaxInt} {
			if l := audit.Partners(w, n); len(l) != 0 {
				t.Errorf("P25.1: of %s: the client %d has the partners %v", what, n, l)
			}
		}
		says(t, w, "of "+what)
		wants(t, w, "of "+what)
	}
}

// A client that is not there, or is not done, has no partners.
func TestP25_1NoPartners(t *testing.T) {
	w := talking(t, 2)
	do(w, dial, 1, 2) // fails
	rounds(w, 1)
	do(w, dial, 1, 1)
	was := w.Datagrams()
	do(w, poll)
	for n := was + 1; n <= w.Datagrams(); n++ {
		do(w, come, n) // its side has a flight, that does not come
	}
	do(w, dial, 1, 1) // has not said a thing
	if l := w.Peers(1); len(l) != 3 || l[2].Talk.Facts().Flight == 0 || guest(w, 3).Talk.State().Fail != api.ErrVersion {
		t.Fatalf("P25.1: %v", audit.Lines(w))
	}
	for _, n := range []int{0, -1, 3, 4, 5, 6, 99, math.MinInt, math.MaxInt} {
		if l := audit.Partners(w, n); len(l) != 0 {
			t.Errorf("P25.1: the client %d has the partners %v", n, l)
		}
	}
	for n := 1; n <= 2; n++ {
		if l := audit.Partners(w, n); !slices.Equal(l, []int{n}) {
			t.Errorf("P25.1: the client %d has the partners %v", n, l)
		}
	}
}

// Partners are counted among the sides of the client's server, whoever came first.
func TestP25_1PartnersByNumber(t *testing.T) {
	w := served(1)
	do(w, serve, 1, 0, 9, 9, 9)
	for _, s := range []int{1, 2, 1, 2, 1} {
		do(w, dial, s, 1)
	}
	do(w, poll)
	for n := 5; n >= 1; n-- { // the last one comes first
		do(w, come, n)
	}
	rounds(w, 6)
	for c, want := range map[int]int{1: 3, 2: 2, 3: 2, 4: 1, 5: 1} {
		if l := audit.Partners(w, c); !slices.Equal(l, []int{want}) {
			t.Errorf("P25.1: the client %d has the partners %v, not %d", c, l, want)
		}
	}
	wants(t, w, "five clients")
	says(t, w, "five clients",
		"c1 s1 v1 sent 0 took 0 done", "c2 s2 v1 sent 0 took 0 done", "c3 s1 v1 sent 0 took 0 done", "c4 s2 v1 sent 0 took 0 done", "c5 s1 v1 sent 0 took 0 done",
		"s1 t1 v1 sent 0 took 0 done", "s1 t2 v1 sent 0 took 0 done", "s1 t3 v1 sent 0 took 0 done", "s2 t1 v1 sent 0 took 0 done", "s2 t2 v1 sent 0 took 0 done")
}

// A hello that comes from more addresses lets more sides wait; the one that the client has heard is its partner, also while it waits.
func TestP25_1OnePartnerOfMany(t *testing.T) {
	w := served(1)
	do(w, dial, 1, 1)
	do(w, poll)
	for address := 7; address >= 2; address-- {
		do(w, lead, 1, 1, address)
	}
	do(w, come, 1)
	do(w, lead, 1, 1, 8)
	was := w.Datagrams()
	do(w, poll)
	for n := was + 1; n <= w.Datagrams(); n++ {
		do(w, come, n)
	}
	if n := len(w.Peers(1)); n != 8 || w.Peers(1)[6].Talk.Facts().Done {
		t.Fatalf("P25.1: %v", audit.Lines(w))
	}
	if l := audit.Partners(w, 1); !slices.Equal(l, []int{7}) {
		t.Errorf("P25.1: the partners %v, not 7", l)
	}
	wants(t, w, "a partner that waits")
	want := []string{"c1 s1 v1 sent 0 took 0 done"}
	for n := 1; n <= 8; n++ {
		want = append(want, fmt.Sprintf("s1 t%d v0 sent 0 took 0", n))
	}
	says(t, w, "a partner that waits", want...)
}

// Who has failed, or is closed, keeps its secrets: it has its partner.
func TestP25_1PartnersInTheEnd(t *testing.T) {
	w := talking(t, 2)
	do(w, end, 1, 5)
	do(w, end, 1, 5, 2)
	for n := 1; n <= 2; n++ {
		if l := audit.Partners(w, n); !slices.Equal(l, []int{n}) {
			t.Errorf("P25.1: the client %d has the partners %v", n, l)
		}
	}
	rounds(w, 1)
	for n := 1; n <= 2; n++ {
		if l := audit.Partners(w, n); !slices.Equal(l, []int{n}) {
			t.Errorf("P25.1: the client %d has the partners %v", n, l)
		}
	}
	wants(t, w, "both are closed")
}

// Two sides with the same secrets are two partners.
func TestP25_1TwoPartners(t *testing.T) {
	w := talking(t, 3)
	l := w.Peers(1)
	*l[2].Talk = *l[0].Talk
	if l := audit.Partners(w, 1); !slices.Equal(l, []int{1, 3}) {
		t.Errorf("P25.1: the partners %v, not 1 and 3", l)
	}
	if l := audit.Partners(w, 2); !slices.Equal(l, []int{2}) {
		t.Errorf("P25.1: the partners %v, not 2", l)
	}
	wants(t, w, "two sides alike", "agree", "unique")
	w = talking(t, 3)
	*guest(w, 3).Talk = *guest(w, 1).Talk
	wants(t, w, "two clients alike", "unique")
}

// What a line says of each side: while it waits, what it sent and took, how it ended.
func TestP25_1Lines(t *testing.T) {
	w := served(21)
	do(w, serve, 1, 0, 9, 9, 9)
	do(w, dial, 1, 12)
	says(t, w, "a hello", "c1 s1 v0 sent 0 took 0")
	do(w, send, 1)
	do(w, poll)
	says(t, w, "a term that waits", "c1 s1 v0 sent 1 took 0")
	do(w, come, 1)
	says(t, w, "a hello came", "c1 s1 v0 sent 1 took 0", "s1 t1 v0 sent 0 took 0")
	rounds(w, 1)
	do(w, dial, 2, 2)
	says(t, w, "a flight came", "c1 s1 v1 sent 1 took 0 done", "c2 s2 v0 sent 0 took 0", "s1 t1 v0 sent 0 took 0")
	rounds(w, 2)
	says(t, w, "all came", "c1 s1 v1 sent 1 took 0 done", "c2 s2 v0 sent 0 took 0 failed 13", "s1 t1 v1 sent 0 took 1 done")
	for range 12 {
		do(w, reply, 1, 1)
	}
	do(w, send, 2) // it has failed: nothing is sent
	rounds(w, 2)
	says(t, w, "twelve terms", "c1 s1 v1 sent 1 took 12 done", "c2 s2 v0 sent 0 took 0 failed 13", "s1 t1 v1 sent 12 took 1 done")
	do(w, end, 2, 4)
	do(w, end, 1, 4, 1)
	says(t, w, "two are closed", "c1 s1 v1 sent 1 took 12 done", "c2 s2 v0 sent 0 took 0 failed 13 closed", "s1 t1 v1 sent 12 took 1 done closed")
	rounds(w, 1)
	says(t, w, "the close came", "c1 s1 v1 sent 1 took 12 done closed", "c2 s2 v0 sent 0 took 0 failed 13 closed", "s1 t1 v1 sent 12 took 1 done closed")
	do(w, dial, 2, 1)
	do(w, end, 3, 4)
	says(t, w, "a hello is closed", "c1 s1 v1 sent 1 took 12 done closed", "c2 s2 v0 sent 0 took 0 failed 13 closed", "c3 s2 v0 sent 0 took 0 closed", "s1 t1 v1 sent 12 took 1 done closed")
}

// One that is done may have failed, and may be closed, too.
func TestP25_1LinesOfAFailure(t *testing.T) {
	w := talking(t, 1)
	do(w, leak, 1, ofTraffic)
	f := guest(w, 1).Talk.Facts()
	x := do(w, makes, secretKind)
	toClient(w, 1, short(w, name('c', 1), f.Server, 60, data(1000, x))) // none below the limit
	says(t, w, "a client has failed", "c1 s1 v1 sent 0 took 0 done failed 12", "s1 t1 v1 sent 0 took 0 done")
	toServer(w, 1, 1, short(w, name(0, 1), f.Client, 60, data(1000, x)))
	says(t, w, "both have failed", "c1 s1 v1 sent 0 took 0 done failed 12", "s1 t1 v1 sent 0 took 0 done failed 12")
	do(w, end, 1, 0)
	do(w, end, 1, 0, 1)
	says(t, w, "both are closed", "c1 s1 v1 sent 0 took 0 done failed 12 closed", "s1 t1 v1 sent 0 took 0 done failed 12 closed")
}

// A number of more figures is told whole: of clients, of sides, of versions.
func TestP25_1LinesOfMany(t *testing.T) {
	w := world.New()
	for range 8 {
		do(w, serve, 9, 0, 9, 9, 9)
	}
	var want []string
	for n := 1; n <= 64; n++ {
		do(w, dial, 8, 9)
		want = append(want, fmt.Sprintf("c%d s8 v9 sent 0 took 0 done", n))
	}
	rounds(w, 6)
	for n := 1; n <= 64; n++ {
		want = append(want, fmt.Sprintf("s8 t%d v9 sent 0 took 0 done", n))
	}
	says(t, w, "64 clients", want...)
	for n := 1; n <= 64; n++ {
		if l := audit.Partners(w, n); !slices.Equal(l, []int{n}) {
			t.Errorf("P25.1: the client %d has the partners %v", n, l)
		}
	}
	wants(t, w, "64 clients")
}

// R4, R5: who asks changes nothing, and is told new memory each time.
func TestR4Asked(t *testing.T) {
	w := talking(t, 2)
	do(w, send, 1)
	rounds(w, 2)
	size, now := w.Table().Size(), w.Datagrams()
	for range 3 {
		says(t, w, "asked again", "c1 s1 v1 sent 1 took 0 done", "c2 s1 v1 sent 0 took 0 done", "s1 t1 v1 sent 0 took 1 done", "s1 t2 v1 sent 0 took 0 done")
		p := audit.Partners(w, 2)
		if !slices.Equal(p, []int{2}) {
			t.Errorf("R4: %v", p)
		}
		clear(p[:cap(p)])
		l := audit.Lines(w)
		clear(l[:cap(l)])
		wants(t, w, "asked again")
	}
	do(w, leak, 1, ofTraffic)
	for range 2 {
		l := audit.Broken(w)
		if !slices.Equal(l, []string{"secret"}) {
			t.Errorf("R4: %v", l)
		}
		clear(l[:cap(l)])
	}
	if w.Table().Size() != size || w.Datagrams() != now {
		t.Errorf("R4: %d terms, %d datagrams", w.Table().Size(), w.Datagrams())
	}
	do(w, reply, 1, 1)
	rounds(w, 2)
	if g := guest(w, 1); len(g.Got) != 1 || g.Talk.State().Fail != api.OK {
		t.Errorf("R4: %v", audit.Lines(w))
	}
}
