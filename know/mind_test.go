package know_test

import (
	"iter"
	"math/rand/v2"
	"slices"
	"testing"

	"shibboleth/api"
	"shibboleth/kinds"
	"shibboleth/know"
	"shibboleth/term"
)

// words is what the document's words say of a table, reckoned as they stand: by term.
type words struct {
	x            *term.Table
	follows, can []bool
}

// said goes through all terms again and again, till nothing changes.
func said(x *term.Table, base []api.Term) *words {
	w := &words{x, make([]bool, x.Size()+1), make([]bool, x.Size()+1)}
	for _, h := range base {
		if h > 0 && int(h) <= x.Size() {
			w.follows[h] = true
		}
	}
	for changed := true; changed; {
		changed = false
		for i := range x.Size() {
			h := api.Term(i + 1)
			can := w.makes(h)
			changed = changed || can != w.can[h]
			w.can[h] = can
			for _, p := range w.out(h) {
				changed = changed || !w.follows[p]
				w.follows[p] = true
			}
		}
	}
	return w
}

// out tells what follows of one term, as it is now.
func (w *words) out(h api.Term) []api.Term {
	n, _ := w.x.Look(h)
	switch {
	case !w.follows[h]:
		return nil
	case n.Kind == kinds.Row:
		return n.Parts
	case n.Kind == kinds.Signed:
		return n.Parts[1:]
	case n.Kind == kinds.Sealed && w.can[n.Parts[0]]:
		return n.Parts[2:]
	}
	return nil
}

// makes: can a term be made, as it is now?
func (w *words) makes(h api.Term) bool {
	n, _ := w.x.Look(h)
	switch {
	case w.follows[h]:
		return true
	case n.Kind == kinds.Secret:
		return false
	case n.Kind == kinds.Shared:
		one, other := n.Parts[0], n.Parts[1]
		return w.can[one] && w.sees(other) || w.can[other] && w.sees(one)
	}
	return !slices.ContainsFunc(n.Parts, func(p api.Term) bool { return !w.can[p] })
}

// sees: does a secret follow, or its public one?
func (w *words) sees(secret api.Term) bool {
	for i, is := range w.follows {
		n, _ := w.x.Look(api.Term(i))
		if is && (api.Term(i) == secret || n.Kind == kinds.Public && n.Parts[0] == secret) {
			return true
		}
	}
	return false
}

// listed tells the numbers of a list of bools.
func listed(all []bool) []api.Term {
	var l []api.Term
	for i, is := range all {
		if is {
			l = append(l, api.Term(i))
		}
	}
	return l
}

// play puts tables together, always the same ones.
type play struct {
	*rand.Rand
	x *term.Table
}

// newPlay begins a table with some secrets and a text.
func newPlay(seed uint64, secrets int) play {
	p := play{rand.New(rand.NewPCG(seed, 3)), term.New()}
	p.x.Text([]byte("head"))
	for range secrets {
		p.x.Secret()
	}
	return p
}

// any tells some term of the table, now and then none.
func (p play) any() api.Term { return api.Term(p.IntN(p.x.Size()+2) + p.IntN(20)/19*-3) }

// some tells up to n of them.
func (p play) some(n int) []api.Term {
	var l []api.Term
	for range p.IntN(n + 1) {
		l = append(l, p.any())
	}
	return l
}

// grow tries n terms, many of them sealed ones, shared ones and what they need.
func (p play) grow(n int) {
	for range n {
		switch kind := kinds.Row + p.IntN(14); kind {
		case kinds.Row:
			p.x.Make(kind, p.some(4))
		case kinds.Hash, kinds.Public:
			p.x.Make(kind, list(p.any()))
		case kinds.Mac, kinds.Shared, kinds.Signed:
			p.x.Make(kind, list(p.any(), p.any()))
		case kinds.Derived:
			p.x.Make(kind, list(p.any(), 1, p.any()))
		case 11:
			p.x.Make(kinds.Public, list(api.Term(2+p.IntN(4))))
		case 12:
			p.x.Make(kinds.Shared, list(api.Term(2+p.IntN(4)), p.any()))
		default:
			p.x.Make(kinds.Sealed, list(p.any(), 1, p.any()))
		}
	}
}

// agrees holds a mind, and Closed and Can of its base, against the words.
func agrees(t *testing.T, x *term.Table, base []api.Term, m *know.Mind) {
	t.Helper()
	w := said(x, base)
	if l, want := m.Knows(), listed(w.follows); !slices.Equal(l, want) || !slices.Equal(know.Closed(x, base), want) {
		t.Fatalf("P3.1, P3.2: of %v follow %v, of a mind %v, not %v", base, know.Closed(x, base), l, want)
	}
	for i, want := range w.can {
		if h := api.Term(i); m.Can(h) != want || know.Can(x, base, h) != want {
			t.Fatalf("P3.1, P3.2: of %v can %d be made: %t is wrong", base, h, !want)
		}
	}
}

func TestP3_1AsTheWordsSay(t *testing.T) {
	for seed := range uint64(400) {
		p := newPlay(seed, 4)
		p.grow(60)
		for range 4 {
			base := p.some(12)
			m := know.New(p.x)
			m.Learn(base)
			agrees(t, p.x, base, m)
		}
	}
}

func TestP3_2LearnsWhileTheTableGrows(t *testing.T) {
	for seed := range uint64(200) {
		p := newPlay(seed, 4)
		m := know.New(p.x)
		var base []api.Term
		for range 10 {
			p.grow(10)
			agrees(t, p.x, base, m)
			l := p.some(3)
			m.Learn(l)
			for _, h := range l {
				if int(h) <= p.x.Size() { // what is no term by now isn't known later
					base = append(base, h)
				}
			}
			agrees(t, p.x, base, m)
		}
	}
}

func TestP3_2NewKnowsNothing(t *testing.T) {
	x := filled(t)
	m := know.New(x)
	for _, l := range [][]api.Term{nil, {}, {0, -1, ends, 1 << 40, -1 << 63}} {
		m.Learn(l)
		if len(m.Knows()) != 0 || !slices.Equal(able(x, m.Can), list(text)) {
			t.Errorf("P3.2: a new mind knows %v", m.Knows())
		}
	}
	other := know.New(x)
	other.Learn(list(a))
	if m.Can(a) || !other.Can(a) {
		t.Error("P3.2: two minds are one")
	}
}

func TestP3_2TermsByNow(t *testing.T) {
	x := filled(t)
	m := know.New(x)
	m.Learn(list(ends, a))
	if h := x.Secret(); h != ends || m.Can(h) || !slices.Equal(m.Knows(), list(a)) {
		t.Error("P3.2: what was no term when it was learnt is known")
	}
	m.Learn(list(ends))
	if !m.Can(ends) || !slices.Equal(m.Knows(), list(a, ends)) {
		t.Error("P3.2: what is a term now is not known")
	}
	// What is new in the table, and can be made, can be made at once.
	h := must(t, x, kinds.Hash, must(t, x, kinds.Row, a, ends))
	if !m.Can(h) || m.Can(h+1) || !slices.Equal(m.Knows(), list(a, ends)) {
		t.Error("P3.2: what the table has now can't be made")
	}
}

func TestP3_2KeysThatComeLater(t *testing.T) {
	x := filled(t)
	m := know.New(x)
	for _, step := range []struct {
		l     []api.Term
		knows []api.Term
	}{
		{list(sealed), list(sealed)},
		{list(hash), list(hash, sealed)},
		{list(publicA, c), list(c, publicA, hash, sealed)},
		{list(b), list(b, c, publicA, hash, shared, sealed)},
		{list(b, sealed, 0), list(b, c, publicA, hash, shared, sealed)},
		{list(signed), list(text, b, c, publicA, row, hash, shared, signed, sealed)},
	} {
		m.Learn(step.l)
		if l := m.Knows(); !slices.Equal(l, step.knows) {
			t.Errorf("P3.2: with %v it knows %v, not %v", step.l, l, step.knows)
		}
	}
}

// orders goes through all orders of a list.
func orders(l []api.Term) iter.Seq[[]api.Term] {
	return func(yield func([]api.Term) bool) {
		if len(l) == 0 {
			yield(nil)
			return
		}
		for i, h := range l {
			for rest := range orders(slices.Delete(slices.Clone(l), i, i+1)) {
				if !yield(append(list(h), rest...)) {
					return
				}
			}
		}
	}
}

func TestP3_2SharedKeysInEachOrder(t *testing.T) {
	x := filled(t)
	key := must(t, x, kinds.Derived, shared, text, shared)
	shut := must(t, x, kinds.Sealed, key, text, c)
	pair := must(t, x, kinds.Sealed, c, text, publicA)
	for l := range orders(list(shut, pair, a, b, publicA, publicB)) {
		m := know.New(x)
		for i, h := range l {
			m.Learn(list(h))
			if base := l[:i+1]; !slices.Equal(m.Knows(), listed(said(x, base).follows)) {
				t.Fatalf("P3.2: of %v, one behind the other, follow %v", base, m.Knows())
			}
		}
	}
}

// Who asks changes nothing: the answers are the same again, and what is learnt behind them tells the same.
func TestP3_2AskingChangesNothing(t *testing.T) {
	x := filled(t)
	asked, silent := know.New(x), know.New(x)
	for _, h := range []api.Term{sealed, hash, publicA, b, c, a} {
		for range 2 {
			able(x, asked.Can)
			asked.Knows()
		}
		asked.Learn(list(h))
		silent.Learn(list(h))
		if !slices.Equal(asked.Knows(), silent.Knows()) || !slices.Equal(able(x, asked.Can), able(x, silent.Can)) {
			t.Errorf("P3.2: with %d who was asked knows %v, who was not %v", h, asked.Knows(), silent.Knows())
		}
	}
}

func TestP3_2OfNil(t *testing.T) {
	var m *know.Mind
	none := know.New(nil)
	for _, l := range [][]api.Term{nil, {0}, {1, 2, -1}} {
		m.Learn(l)
		none.Learn(l)
		for h := api.Term(-2); h < 4; h++ {
			if m.Can(h) || none.Can(h) {
				t.Errorf("P3.2: nil can make %d", h)
			}
		}
		if len(m.Knows()) != 0 || len(none.Knows()) != 0 {
			t.Error("P3.2: nil knows something")
		}
	}
}

// Letter by letter, as somebody hears them who has no key, and asks each time.
func TestP3_2HearsMuch(t *testing.T) {
	x := term.New()
	head := x.Text(nil)
	secret := x.Secret()
	m := know.New(x)
	var heard []api.Term
	for x.Size() < api.MaxTerms-5 {
		key := must(t, x, kinds.Derived, must(t, x, kinds.Row, secret, must(t, x, kinds.Hash, api.Term(x.Size()))), head, head)
		heard = append(heard, must(t, x, kinds.Sealed, key, head, x.Secret()))
		m.Learn(heard[len(heard)-1:])
		if m.Can(api.Term(x.Size() - 1)) {
			t.Fatalf("P3.2: what was sealed with %d is not secret", key)
		}
	}
	if l := m.Knows(); !slices.Equal(l, heard) {
		t.Errorf("P3.2: it knows %d terms", len(l))
	}
	m.Learn(list(secret))
	if l := m.Knows(); len(l) != 2*len(heard)+1 {
		t.Errorf("P3.2: with the secret it knows %d terms of %d", len(l), x.Size())
	}
}

func TestP3_3WhoKnowsMoreMakesMore(t *testing.T) {
	for seed := range uint64(200) {
		p := newPlay(seed, 4)
		p.grow(60)
		base := p.some(8)
		can := able(p.x, func(h api.Term) bool { return know.Can(p.x, base, h) })
		more := append(p.some(3), base...)
		for _, h := range can {
			if !know.Can(p.x, more, h) {
				t.Fatalf("P3.3: of %v can be made %d, of %v not", base, h, more)
			}
		}
		l := know.Closed(p.x, base)
		if !slices.Equal(know.Closed(p.x, l), l) {
			t.Fatalf("P3.3: of %v follow %v, of these %v", base, l, know.Closed(p.x, l))
		}
		m := know.New(p.x)
		m.Learn(base)
		m.Learn(can)
		if again := able(p.x, m.Can); !slices.Equal(again, can) {
			t.Fatalf("P3.3: of %v can be made %v, of these %v", base, can, again)
		}
	}
}
