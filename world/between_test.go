package world_test

import (
	"bytes"
	"math"
	"slices"
	"strings"
	"testing"

	"shibboleth/api"
	"shibboleth/frame"
	"shibboleth/header"
	"shibboleth/ideal"
	"shibboleth/sched"
	"shibboleth/special"
	"shibboleth/world"
)

// He hears what is sent: each packet's sealed term, tokens, a Retry's token and tag; but not what is not sent yet.
func TestP24_1Hears(t *testing.T) {
	w := world.New()
	do(w, serve, 21, 1, 9, 9, 9)
	do(w, dial, 1, 12)
	retries, tokens, heard := 0, 0, 0
	for range 9 {
		was := w.Datagrams()
		do(w, poll)
		for n := was + 1; n <= w.Datagrams(); n++ {
			b := w.Letter(n)
			for _, h := range carried(b) {
				if !w.Can(h) {
					t.Errorf("P24.1: he did not hear %d of the datagram %d", h, n)
				}
				heard++
			}
			if _, e := special.ReadRetry(b); e == api.OK {
				retries++
			} else if len(first(t, b).Token) > 0 {
				tokens++
			}
		}
		for n := was + 1; n <= w.Datagrams(); n++ {
			do(w, come, n)
		}
		do(w, tick)
	}
	if f := guest(w, 1).Talk.Facts(); !f.Done || retries == 0 || tokens == 0 || heard < 15 {
		t.Errorf("P24.1: done %t, %d Retries, %d tokens, %d terms", f.Done, retries, tokens, heard)
	}
	size := w.Table().Size()
	do(w, dial, 1, 1)
	news := 0
	for h := api.Term(size + 1); int(h) <= w.Table().Size(); h++ { // of a hello that is not said yet
		if n, _ := w.Table().Look(h); n.Kind == secretKind {
			news++
			if w.Can(h) {
				t.Errorf("P24.1: he knows %d ahead of its being sent", h)
			}
		}
	}
	if news != 2 {
		t.Errorf("P20: a client has %d secrets", news)
	}
}

// A Retry's token and tag are heard, also where neither is in another datagram.
func TestP24_1HearsARetry(t *testing.T) {
	w := world.New()
	do(w, serve, 1, 1, 9, 9, 9)
	do(w, dial, 1, 1)
	do(w, poll)
	do(w, come, 1)
	do(w, poll)
	r, e := special.ReadRetry(w.Letter(2))
	if e != api.OK || !w.Can(r.Token) || !w.Can(r.Tag) {
		t.Errorf("P24.1: the Retry %v, %d", r, e)
	}
	c, _ := w.Config(1)
	for _, h := range []api.Term{c.Key, c.Server.Key, c.Server.Secret} {
		if w.Can(h) {
			t.Errorf("P24.1: he can make %d", h)
		}
	}
}

// What he learns, and what follows of it.
func TestP24_1Leak(t *testing.T) {
	for b := range 4 {
		w := talking(t, 2)
		do(w, serve, 1, 0, 9, 9, 9)
		h, g := do(w, send, 1), do(w, reply, 1, 1)
		other := do(w, send, 2)
		rounds(w, 2)
		do(w, leak, 1, b)
		c, _ := w.Config(1)
		f := guest(w, 1).Talk.Facts()
		for i, x := range []struct {
			h    api.Term
			want bool
		}{
			{c.Server.Secret, b == ofSigning}, {c.Server.Key, b == ofTickets}, {f.Client, b == ofTraffic}, {f.Server, b == ofTraffic}, {f.Resume, b == ofResumption},
			{h, b == ofTraffic}, {g, b == ofTraffic}, {other, false}, {c.Key, false}, {guest(w, 2).Talk.Facts().Client, false},
		} {
			if w.Can(x.h) != x.want {
				t.Errorf("P24.1: leak 1 %d: the term %d of the list: %t", b, i, !x.want)
			}
		}
		secret, key := w.Leaked(1)
		traffic, resume := w.Spoilt(1)
		if got := []bool{secret, key, traffic, resume}; slices.Index(got, true) != b || slices.Index(got[b+1:], true) >= 0 {
			t.Errorf("P24.1: leak 1 %d: %v", b, got)
		}
		if x, y := w.Leaked(2); x || y {
			t.Errorf("P24.1: leak 1 %d: of the server 2", b)
		}
		if x, y := w.Spoilt(2); x || y {
			t.Errorf("P24.1: leak 1 %d: of the client 2", b)
		}
	}
}

// What is leaked of a client stays his, whatever is changed then.
func TestP24_1LeakBehindAnUpdate(t *testing.T) {
	w := talking(t, 1)
	do(w, leak, 1, ofTraffic)
	for range 3 {
		do(w, send, 1)
		rounds(w, 3)
		do(w, update, 1)
		h, g := do(w, send, 1), do(w, reply, 1, 1)
		if w.Can(h) || w.Can(g) {
			t.Error("P24.1: he knows what is not said yet")
		}
		rounds(w, 3)
		if !w.Can(h) || !w.Can(g) || len(guest(w, 1).Got) == 0 {
			t.Error("P24.1: he does not know what was said")
		}
	}
}

func TestP24_1LeakRefused(t *testing.T) {
	w := talking(t, 1)
	do(w, dial, 1, 1)
	for _, l := range [][]int{{0, 0}, {2, 0}, {-1, 0}, {0, 1}, {2, 1}, {0, 2}, {3, 2}, {-1, 2}, {0, 3}, {3, 3}, {2, 2}, {2, 3}, {1, 4}, {1, -1}, {math.MinInt, math.MaxInt}, {math.MaxInt, 0}} {
		do(w, leak, l...)
	}
	a, b := w.Leaked(1)
	for n := 1; n <= 2; n++ {
		c, d := w.Spoilt(n)
		if a || b || c || d {
			t.Errorf("P24.1: %t, %t, of the client %d %t, %t", a, b, n, c, d)
		}
	}
	for _, n := range []int{0, -1, 3, math.MinInt, math.MaxInt} {
		a, b := w.Leaked(n)
		c, d := w.Spoilt(n)
		if a || b || c || d {
			t.Errorf("P24.1: of %d: %t, %t, %t, %t", n, a, b, c, d)
		}
	}
}

// He makes each kind of term, of those that he can make.
func TestP24_1Make(t *testing.T) {
	w := served(1)
	c, _ := w.Config(1)
	theirs := int(c.Server.Secret)
	public := int(w.Table().Make(publicKind, []api.Term{c.Server.Secret}))
	a, b := int(do(w, makes, secretKind)), int(do(w, makes, secretKind))
	x := int(text(w, "x"))
	mine := int(do(w, makes, publicKind, a))
	for _, m := range []struct {
		l     []int
		kind  int
		parts []int
	}{
		{[]int{rowKind, a, x, b}, rowKind, []int{a, x, b}},
		{[]int{rowKind, b, a, 0}, rowKind, []int{b, a}},
		{[]int{rowKind, x, 0, 0}, rowKind, []int{x}},
		{[]int{rowKind, x, 0, theirs}, rowKind, []int{x}},
		{[]int{rowKind, 0, 0, 0}, rowKind, nil},
		{[]int{hashKind, a, 0, 0}, hashKind, []int{a}},
		{[]int{hashKind, a, theirs, -5}, hashKind, []int{a}},
		{[]int{macKind, a, x, 0}, macKind, []int{a, x}},
		{[]int{macKind, b, x, theirs}, macKind, []int{b, x}},
		{[]int{derivedKind, a, x, b}, derivedKind, []int{a, x, b}},
		{[]int{publicKind, a, 0, 0}, publicKind, []int{a}},
		{[]int{publicKind, b, theirs, 1 << 40}, publicKind, []int{b}},
		{[]int{sharedKind, a, public, 0}, sharedKind, []int{theirs, a}},
		{[]int{sharedKind, b, mine, theirs}, sharedKind, []int{a, b}},
		{[]int{signedKind, a, x, 0}, signedKind, []int{a, x}},
		{[]int{signedKind, a, x, theirs}, signedKind, []int{a, x}},
		{[]int{sealedKind, a, x, mine}, sealedKind, []int{a, x, mine}},
	} {
		h := do(w, makes, m.l...)
		n, _ := w.Table().Look(h)
		var parts []int
		for _, p := range n.Parts {
			parts = append(parts, int(p))
		}
		if n.Kind != m.kind || !slices.Equal(parts, m.parts) || !w.Can(h) || do(w, makes, m.l...) != h {
			t.Errorf("P24.1: make %v: %d, %v", m.l, h, n)
		}
	}
	if a == b || w.Can(api.Term(theirs)) {
		t.Errorf("P24.1: his secrets are %d and %d", a, b)
	}
}

// A text is made of the text alone, a secret of nothing.
func TestP24_1MakeTextsAndSecrets(t *testing.T) {
	w := world.New()
	for _, s := range []string{"", "x", "two words", strings.Repeat("x", 2048)} {
		h := w.Do(world.Act{What: makes, A: textKind, B: -1, C: 99, D: 1 << 50, Text: []byte(s)})
		if n, is := w.Table().Look(h); !is || n.Kind != textKind || n.Text != s || !w.Can(h) {
			t.Errorf("P24.1: the text %q: %d, %v", s, h, n)
		}
	}
	if h := text(w, strings.Repeat("x", 2049)); h != 0 {
		t.Errorf("P24.1: a text of 2049 bytes: %d", h)
	}
	for range 3 {
		size := w.Table().Size()
		h := w.Do(world.Act{What: makes, A: secretKind, B: 99, Text: []byte("x")})
		if n, _ := w.Table().Look(h); int(h) != size+1 || n.Kind != secretKind || !w.Can(h) {
			t.Errorf("P24.1: a secret: %d, %v", h, n)
		}
	}
}

// Of what he can't make, or what has no such form, he makes nothing.
func TestP24_1MakeRefused(t *testing.T) {
	w := served(1)
	c, _ := w.Config(1)
	theirs := int(c.Server.Secret)
	public := int(w.Table().Make(publicKind, []api.Term{c.Server.Secret}))
	a, x := int(do(w, makes, secretKind)), int(text(w, "x"))
	size := w.Table().Size()
	for _, l := range [][]int{
		{0}, {11, a, x, a}, {12}, {-1, a, x, a}, {99, a, x, a}, {math.MinInt}, {math.MaxInt},
		{rowKind, a, x, theirs}, {rowKind, theirs}, {rowKind, a, -1, 0}, {rowKind, size + 1},
		{hashKind, theirs}, {hashKind, 0}, {hashKind, -1}, {hashKind, size + 1}, {hashKind, math.MaxInt}, {hashKind, math.MinInt},
		{macKind, a, theirs}, {macKind, theirs, a}, {macKind, a},
		{derivedKind, a, a, a}, {derivedKind, theirs, x, a}, {derivedKind, a, x, theirs}, {derivedKind, a, x, 0},
		{publicKind, theirs}, {publicKind, x}, {publicKind, public},
		{sharedKind, theirs, public}, {sharedKind, public, a}, {sharedKind, a, a}, {sharedKind, a},
		{signedKind, theirs, x}, {signedKind, x, a}, {signedKind, public, x}, {signedKind, a, theirs},
		{sealedKind, theirs, x, a}, {sealedKind, a, x, theirs}, {sealedKind, a, a, x}, {sealedKind, a, x},
	} {
		if h := do(w, makes, l...); h != 0 || w.Table().Size() != size {
			t.Errorf("P24.1: make %v: %d", l, h)
		}
	}
	do(w, leak, 1, ofSigning)
	if h := do(w, makes, signedKind, theirs, x); h == 0 || !w.Can(h) {
		t.Error("P24.1: he signs nothing with a secret that he learnt")
	}
}

// By hand he sends what he can make: to a server from each address, to a client.
func TestP24_1Hand(t *testing.T) {
	w := served(1)
	do(w, serve, 1, 0, 9, 9, 9)
	do(w, dial, 1, 1)
	do(w, dial, 1, 1)
	do(w, poll)
	b := w.Letter(1)
	toServer(w, 2, 2, b)
	if l := w.Peers(2); len(w.Peers(1)) != 0 || len(l) != 1 || l[0].Talk.State().In != len(b) {
		t.Fatalf("P24.1: %v, %v", w.Peers(1), l)
	}
	if w.Datagrams() != 2 {
		t.Errorf("P24.1: what is sent by hand is a datagram: %d", w.Datagrams())
	}
	do(w, poll)
	do(w, come, 3)
	if a, b := guest(w, 1).Talk.State().In, guest(w, 2).Talk.State().In; a != 0 || b == 0 {
		t.Errorf("P24.1: the address is not 2: %d bytes, %d", a, b)
	}
	b = w.Letter(3)
	for i, way := range []int{1, -1, 7, math.MinInt} { // each B but 0 is of a client
		w.Do(world.Act{What: hand, A: 1, B: way, C: -1, Data: b})
		if s := guest(w, 1).Talk.State(); s.In != (i+1)*len(b) {
			t.Errorf("P24.1: B %d: %d bytes", way, s.In)
		}
	}
	if s := guest(w, 1).Talk.State(); s.Done || s.Fail != api.ErrName { // it meant the server 1
		t.Errorf("P24.2: the server 2 answers the client 1: %v", s)
	}
	was := w.Peers(2)[0].Talk.State().In
	for _, s := range []int{0, 3, -1, math.MinInt, math.MaxInt} {
		toServer(w, s, 1, w.Letter(1))
		toClient(w, s, w.Letter(3))
	}
	for _, address := range []int{-1, math.MinInt, 1 << 62} {
		toServer(w, 2, address, w.Letter(1))
	}
	if w.Peers(2)[0].Talk.State().In != was || guest(w, 1).Talk.State().In != 4*len(b) {
		t.Error("P24.1: what goes nowhere comes")
	}
}

// What carries nothing, or terms that he can make, comes; else nothing does.
func TestP24_1HandOnlyWhatHeCanMake(t *testing.T) {
	w := served(1)
	do(w, dial, 1, 1)
	do(w, poll)
	x := w.Table()
	c, _ := w.Config(1)
	a := do(w, makes, secretKind)
	sealedBy := func(key api.Term) []byte { return ideal.Wrap(ideal.Seal(x, key, nil, x.Text([]byte("x"))), 1) }
	long := header.Header{Kind: api.Handshake, Version: 1, To: name('c', 1), From: name('s', 1), Width: 1}
	short := header.Header{Kind: api.App, To: name('c', 1), Width: 1}
	packet := func(h header.Header, body []byte) []byte { return append(header.Write(h, len(body)), body...) }
	asks := func(token []byte) []byte {
		h := long
		h.Kind, h.Token = api.Initial, token
		return packet(h, []byte("no sealed thing"))
	}
	tagged := func(token, tag api.Term) []byte {
		return special.WriteRetry(special.Retry{Version: 1, To: name('c', 1), Token: token, Tag: tag})
	}
	mine, theirs := sealedBy(a), sealedBy(c.Key)
	unknown := ideal.Wrap(api.Term(x.Size()+500), 1)
	spoilt := bytes.Clone(theirs)
	spoilt[7] = 1
	for what, y := range map[string]struct {
		b    []byte
		come bool
	}{
		"no bytes":                              {nil, true},
		"garbage":                               {[]byte("garbage"), true},
		"a list":                                {special.WriteList(special.List{To: name('c', 1), From: name('x', 1), Versions: []int{9}}), true},
		"his own sealed one":                    {packet(long, mine), true},
		"his own sealed one, short":             {packet(short, mine), true},
		"another's":                             {packet(long, theirs), false},
		"another's, short":                      {packet(short, theirs), false},
		"none that is there":                    {packet(long, unknown), false},
		"no sealed thing's bytes":               {packet(long, spoilt), true},
		"a sealed thing's number alone":         {packet(long, theirs[:4]), true},
		"a body of nothing":                     {packet(long, nil), true},
		"his own, then another's":               {append(packet(long, mine), packet(long, theirs)...), false},
		"another's, then his own":               {append(packet(long, theirs), packet(long, mine)...), false},
		"his own, then garbage, then another's": {append(append(packet(long, mine), 0), packet(long, theirs)...), true},
		"his own token":                         {asks(ideal.Number(a)), true},
		"another's token":                       {asks(ideal.Number(c.Key)), false},
		"a token that is not there":             {asks(ideal.Number(api.Term(x.Size() + 500))), false},
		"a token that is no number":             {asks([]byte{0, 0, 0, 0}), true},
		"a token of three bytes":                {asks(ideal.Number(c.Key)[1:]), true},
		"a token of eight bytes":                {asks(append(ideal.Number(c.Key), ideal.Number(c.Key)...)), true},
		"a Retry of his own":                    {tagged(a, a), true},
		"a Retry with another's token":          {tagged(c.Key, a), false},
		"a Retry with another's tag":            {tagged(a, c.Key), false},
		"a Retry with no tag that is there":     {tagged(a, api.Term(x.Size()+500)), false},
		"what he heard":                         {w.Letter(1), true},
	} {
		was := guest(w, 1).Talk.State()
		toClient(w, 1, y.b)
		now := guest(w, 1).Talk.State()
		if now.Fail != api.OK && was.Fail == api.OK && what != "a list" {
			t.Fatalf("P24.1: %s lets the client fail: %v", what, now)
		}
		if got := now.In == was.In+len(y.b); len(y.b) > 0 && got != y.come || now.In != was.In && !y.come {
			t.Errorf("P24.1: %s: it comes: %t", what, got)
		}
	}
}

// A Retry that he makes is taken: its tag's key is known to all.
func TestP24_1ARetryByHand(t *testing.T) {
	w := served(1)
	do(w, dial, 1, 1)
	do(w, poll)
	r := special.Retry{Version: 1, To: name('c', 1), From: name('r', 5), Token: do(w, makes, secretKind)}
	r.Tag = special.Tag(w.Table(), name('g', 1), r)
	toClient(w, 1, special.WriteRetry(r))
	do(w, poll)
	if h := first(t, w.Letter(2)); !bytes.Equal(h.To, name('r', 5)) || !bytes.Equal(h.Token, ideal.Number(r.Token)) {
		t.Errorf("P24.1: behind a Retry by hand: %v", h)
	}
	rounds(w, 9)
	if f := guest(w, 1).Talk.Facts(); f.Done {
		t.Error("P24.2: a client is done behind a Retry of nobody's")
	}
}

// With a client's traffic's secrets he can write to both sides; without them he can't.
func TestP24_1HandBehindALeak(t *testing.T) {
	for _, learns := range []bool{false, true} {
		w := talking(t, 1)
		if learns {
			do(w, leak, 1, ofTraffic)
		}
		x := do(w, makes, secretKind)
		f := guest(w, 1).Talk.Facts()
		data := frame.Frame{Kind: dataKind, Count: 7, Term: x}
		toClient(w, 1, sealed(w, under(w, api.App, f.Server), header.Header{Kind: api.App, To: name('c', 1)}, 50, data))
		toServer(w, 1, 1, sealed(w, under(w, api.App, f.Client), header.Header{Kind: api.App, To: side(w, 1).Talk.State().Own}, 50, data))
		for who, got := range map[string][]api.Term{"client": terms(guest(w, 1).Got), "server": terms(side(w, 1).Got)} {
			want := []api.Term{x}
			if !learns {
				want = nil
			}
			if !slices.Equal(got, want) {
				t.Errorf("P24.1: he learns: %t: the %s takes %v, not %v", learns, who, got, want)
			}
		}
		if l := broken(w); slices.Contains(l, "honest") != learns {
			t.Errorf("P24.2: he learns: %t: broken: %v", learns, l)
		}
	}
}

// A first packet that he makes lets a talk begin: everybody may dial.
func TestP24_1AnInitialByHand(t *testing.T) {
	w := served(1)
	goal := name('h', 1)
	h := header.Header{Version: 1, To: goal, From: name('h', 2)}
	toServer(w, 1, 5, initial(w, h, goal, true, 0, frame.Frame{Kind: ping}))
	toServer(w, 1, 5, initial(w, h, name('h', 3), false, 0, frame.Frame{Kind: ping}))
	if len(w.Peers(1)) != 0 {
		t.Error("P23.1: a talk begins with a packet that does not open")
	}
	toServer(w, 1, 5, initial(w, h, goal, false, 0, frame.Frame{Kind: ping}))
	l := w.Peers(1)
	if len(l) != 1 || !bytes.Equal(l[0].Talk.State().Peer, name('h', 2)) {
		t.Errorf("P24.1: %v", l)
	}
	if a, b := sched.First(w.Table(), goal); !w.Can(a) || !w.Can(b) {
		t.Error("P24.1: he can't make first secrets")
	}
}
