package know_test

import (
	"slices"
	"testing"

	"shibboleth/api"
	"shibboleth/kinds"
	"shibboleth/know"
	"shibboleth/term"
)

// The terms of filled.
const (
	text    api.Term = iota + 1
	a                // secrets
	b                //
	c                //
	publicA          //
	publicB          //
	row              // text, c, public a, the other way round c
	hash             // of the row
	mac              // of the hash, with b as its key
	derived          // of b, with the mac as its context
	shared           // of a and b
	signed           // by a: the row
	sealed           // with the derived one as its key: the shared one
	ends             // the number behind them
)

// filled is a table with terms of all kinds.
func filled(t *testing.T) *term.Table {
	t.Helper()
	x := term.New()
	for i, h := range []api.Term{
		x.Text([]byte("text")), x.Secret(), x.Secret(), x.Secret(),
		x.Make(kinds.Public, list(a)),
		x.Make(kinds.Public, list(b)),
		x.Make(kinds.Row, list(text, c, publicA, c)),
		x.Make(kinds.Hash, list(row)),
		x.Make(kinds.Mac, list(b, hash)),
		x.Make(kinds.Derived, list(b, text, mac)),
		x.Make(kinds.Shared, list(a, publicB)),
		x.Make(kinds.Signed, list(a, row)),
		x.Make(kinds.Sealed, list(derived, text, shared)),
	} {
		if h != api.Term(i+1) {
			t.Fatalf("the term %d has the number %d", i+1, h)
		}
	}
	return x
}

func list(l ...api.Term) []api.Term { return l }

// must makes a term that has to be one.
func must(t *testing.T, x *term.Table, kind int, l ...api.Term) api.Term {
	t.Helper()
	h := x.Make(kind, l)
	if h == 0 {
		t.Fatalf("no term of the kind %d of %v", kind, l)
	}
	return h
}

// able tells which terms of a table a function says yes to.
func able(x *term.Table, can func(api.Term) bool) []api.Term {
	var l []api.Term
	for h := api.Term(1); int(h) <= x.Size(); h++ {
		if can(h) {
			l = append(l, h)
		}
	}
	return l
}

// holds holds what follows of base, and what of the table can be made, against what it has to be.
func holds(t *testing.T, x *term.Table, base, follow, make []api.Term) {
	t.Helper()
	if l := know.Closed(x, base); !slices.Equal(l, follow) {
		t.Errorf("P3.1: of %v follow %v, not %v", base, l, follow)
	}
	l := able(x, func(h api.Term) bool { return know.Can(x, base, h) })
	if !slices.Equal(l, make) {
		t.Errorf("P3.1: of %v can be made %v, not %v", base, l, make)
	}
}

func TestP3_1OfNothing(t *testing.T) {
	x := filled(t)
	for _, base := range [][]api.Term{nil, {}, {0}, {-1}, {ends}, {-1 << 63, 1<<63 - 1, 1 << 32, 1<<16 + 1, 0}} {
		holds(t, x, base, nil, list(text))
	}
	holds(t, term.New(), nil, nil, nil)
	holds(t, term.New(), list(0, 1, 2), nil, nil)
}

func TestP3_1OfOneTerm(t *testing.T) {
	x := filled(t)
	for _, s := range []struct{ base, follow, make []api.Term }{
		{list(text), list(text), list(text)},
		{list(a), list(a), list(text, a, publicA)},
		{list(b), list(b), list(text, b, publicB)},
		{list(c), list(c), list(text, c)},
		{list(publicA), list(publicA), list(text, publicA)},
		{list(row), list(text, c, publicA, row), list(text, c, publicA, row, hash)},
		{list(hash), list(hash), list(text, hash)},
		{list(mac), list(mac), list(text, mac)},
		{list(derived), list(derived), list(text, derived)},
		{list(shared), list(shared), list(text, shared)},
		{list(signed), list(text, c, publicA, row, signed), list(text, c, publicA, row, hash, signed)},
		{list(sealed), list(sealed), list(text, sealed)},
	} {
		holds(t, x, s.base, s.follow, s.make)
	}
}

func TestP3_1OfMoreTerms(t *testing.T) {
	x := filled(t)
	for _, s := range []struct{ base, follow, make []api.Term }{
		// The derived one is the key.
		{list(sealed, derived), list(derived, shared, sealed), list(text, derived, shared, sealed)},
		// The key can be made, but does not follow.
		{list(b, mac, sealed), list(b, mac, shared, sealed), list(text, b, publicB, mac, derived, shared, sealed)},
		{list(sealed, hash, b), list(b, hash, shared, sealed), list(text, b, publicB, hash, mac, derived, shared, sealed)},
		{list(c, sealed, a, b), list(a, b, c, shared, sealed), list(text, a, b, c, publicA, publicB, row, hash, mac, derived, shared, signed, sealed)},
		// What is sealed can be made, and its key can be: so can it itself.
		{list(shared, derived), list(derived, shared), list(text, derived, shared, sealed)},
		// Just a part of the key is there.
		{list(sealed, hash), list(hash, sealed), list(text, hash, sealed)},
		{list(b, sealed), list(b, sealed), list(text, b, publicB, sealed)},
		{list(a, row), list(text, a, c, publicA, row), list(text, a, c, publicA, row, hash, signed)},
		{list(a, c), list(a, c), list(text, a, c, publicA, row, hash, signed)},
	} {
		holds(t, x, s.base, s.follow, s.make)
	}
}

func TestP3_1Shared(t *testing.T) {
	x := term.New()
	a, b, other := x.Secret(), x.Secret(), x.Secret()
	pa, pb, po := must(t, x, kinds.Public, a), must(t, x, kinds.Public, b), must(t, x, kinds.Public, other)
	s := must(t, x, kinds.Shared, a, pb)
	own := must(t, x, kinds.Shared, a, pa)
	sealed := must(t, x, kinds.Sealed, s, x.Text(nil), other)
	pair := must(t, x, kinds.Row, pb, pb)
	for _, one := range []struct {
		base []api.Term
		want bool
	}{
		{nil, false}, {list(a), false}, {list(b), false}, {list(pa, pb), false}, {list(other, pa, pb, po), false},
		{list(a, pa), false}, {list(b, pb), false}, {list(a, po), false},
		{list(a, b), true}, {list(a, pb), true}, {list(b, pa), true}, {list(pb, a, pa), true}, {list(pair, a), true}, {list(s), true},
	} {
		if know.Can(x, one.base, s) != one.want {
			t.Errorf("P3.1: of %v can the shared one be made: %t is wrong", one.base, !one.want)
		}
		with := append(list(sealed), one.base...)
		if know.Can(x, with, s) != one.want || slices.Contains(know.Closed(x, with), other) != (one.want || slices.Contains(one.base, other)) {
			t.Errorf("P3.1: of %v what is sealed with the shared one: %v", with, know.Closed(x, with))
		}
	}
	if !know.Can(x, list(a), own) || know.Can(x, list(pa, b, pb), own) {
		t.Error("P3.1: a shared one of a secret and its own public one hangs on that secret alone")
	}
}

// A public one that can be made of a secret is one that is there, too, though no table has it.
func TestP3_1SharedWithoutPublicOnes(t *testing.T) {
	x := term.New()
	a, b := x.Secret(), x.Secret()
	pb := must(t, x, kinds.Public, b)
	s := must(t, x, kinds.Shared, a, pb)
	if !know.Can(x, list(a, b), s) || know.Can(x, list(b), s) || know.Can(x, list(b, pb), s) {
		t.Error("P3.1")
	}
}

func TestP3_1KeysOfAllKinds(t *testing.T) {
	x := filled(t)
	none := must(t, x, kinds.Row)
	texts := must(t, x, kinds.Hash, must(t, x, kinds.Row, text, x.Text(nil), none))
	for key, base := range map[api.Term][]api.Term{
		text: nil, none: nil, texts: nil, must(t, x, kinds.Mac, text, texts): nil, must(t, x, kinds.Derived, text, text, none): nil,
		must(t, x, kinds.Sealed, text, text, texts): nil,
		a: {a}, publicA: {a}, row: {c, publicA}, hash: {c, a}, mac: {b, row}, derived: {b, hash}, shared: {a, publicB}, signed: {a, c}, sealed: {b, hash, shared},
	} {
		content := x.Secret()
		s := must(t, x, kinds.Sealed, key, text, content)
		if !slices.Contains(know.Closed(x, append(list(s), base...)), content) {
			t.Errorf("P3.1: what was sealed with %d does not follow with %v", key, base)
		}
		if len(base) > 0 && know.Can(x, list(s), content) {
			t.Errorf("P3.1: what was sealed with %d follows alone", key)
		}
		for i := range base {
			if less := slices.Delete(slices.Clone(base), i, i+1); know.Can(x, append(list(s), less...), content) {
				t.Errorf("P3.1: what was sealed with %d follows with %v", key, less)
			}
		}
	}
}

func TestP3_1KeysThatAreSealed(t *testing.T) {
	x := term.New()
	k, in, out := x.Secret(), x.Secret(), x.Secret()
	head := x.Text(nil)
	inner := must(t, x, kinds.Sealed, k, head, in)
	outer := must(t, x, kinds.Sealed, inner, head, out)
	holds(t, x, list(outer), list(outer), list(head, outer))
	holds(t, x, list(k, in, outer), list(k, in, out, outer), list(k, in, out, head, inner, outer))
	holds(t, x, list(outer, inner), list(out, inner, outer), list(out, head, inner, outer))
}

func TestP3_1LaterKeysOpenEarlierOnes(t *testing.T) {
	x := term.New()
	head := x.Text([]byte("head"))
	var keys, shut []api.Term
	for range 20 {
		keys = append(keys, x.Secret())
	}
	for i := range keys[1:] {
		key := must(t, x, kinds.Derived, keys[i], head, head)
		shut = append(shut, must(t, x, kinds.Sealed, key, head, keys[i+1]))
	}
	for range 2 {
		if l := know.Closed(x, append(list(keys[0]), shut...)); len(l) != len(keys)+len(shut) {
			t.Errorf("P3.1: of all %d follow", len(l))
		}
		if l := know.Closed(x, append(slices.Clone(shut), keys[10])); len(l) != len(shut)+10 {
			t.Errorf("P3.1: with the key in the middle %d follow", len(l))
		}
		slices.Reverse(shut)
	}
	if l := know.Closed(x, shut); len(l) != len(shut) {
		t.Errorf("P3.1: without a key %d follow", len(l))
	}
}

func TestP3_1FullRow(t *testing.T) {
	x := term.New()
	var l []api.Term
	for range api.MaxParts {
		l = append(l, x.Secret())
	}
	full := must(t, x, kinds.Row, l...)
	holds(t, x, list(full), append(l, full), append(l, full))
	holds(t, x, l, l, append(l, full))
	holds(t, x, l[1:], l[1:], l[1:])
	holds(t, x, l[:15], l[:15], l[:15])
}

func TestP3_1RisingAndOnce(t *testing.T) {
	x := filled(t)
	all := able(x, func(api.Term) bool { return true })
	falling := slices.Clone(all)
	slices.Reverse(falling)
	for _, base := range [][]api.Term{all, falling, append(falling, all...), {signed, a, sealed, b, a, signed, publicB, 0, row, ends}} {
		l := know.Closed(x, base)
		if !slices.IsSorted(l) || len(slices.Compact(slices.Clone(l))) != len(l) {
			t.Errorf("P3.1: %v", l)
		}
	}
	if l := know.Closed(x, falling); !slices.Equal(l, all) {
		t.Errorf("P3.1: of all follow %v", l)
	}
}

func TestP3_1NoTermOfTheTable(t *testing.T) {
	x := filled(t)
	all := able(x, func(api.Term) bool { return true })
	for _, h := range []api.Term{-1 << 63, -1, 0, ends, 1 << 16, 1<<16 + 1, 1 << 32, 1<<63 - 1} {
		if know.Can(x, all, h) || know.Can(x, append(list(h), all...), h) || know.Can(x, nil, h) {
			t.Errorf("P3.1: %d can be made", h)
		}
	}
	for _, base := range [][]api.Term{nil, {1}, all} {
		if len(know.Closed(nil, base)) != 0 || know.Can(nil, base, 1) || know.Can(nil, base, 0) {
			t.Errorf("P3.1: of no table something follows of %v", base)
		}
	}
}

// The smallest and the greatest number, and rows in rows, up to the table's end.
func TestP3_1FullTable(t *testing.T) {
	x := term.New()
	first := x.Secret()
	h := first
	for x.Size() < api.MaxTerms {
		h = must(t, x, kinds.Row, h, h)
	}
	if h != api.MaxTerms {
		t.Fatalf("the last term has the number %d", h)
	}
	if !know.Can(x, list(first), h) || know.Can(x, nil, h) || know.Can(x, list(first), h+1) {
		t.Error("P3.1: what can be made of the first term")
	}
	if l := know.Closed(x, list(h)); len(l) != api.MaxTerms || l[0] != first {
		t.Errorf("P3.1: of the last term %d follow", len(l))
	}
	if l := know.Closed(x, list(first)); !slices.Equal(l, list(first)) {
		t.Errorf("P3.1: of the first term follow %v", l)
	}
}

// Each key is in the next sealed thing: however they come, it ends soon.
func TestP3_1LongChains(t *testing.T) {
	x := term.New()
	head := x.Text(nil)
	first := x.Secret()
	key, shut := first, []api.Term(nil)
	for x.Size() < api.MaxTerms-3 {
		next := x.Secret()
		shut = append(shut, must(t, x, kinds.Sealed, must(t, x, kinds.Derived, key, head, head), head, next))
		key = next
	}
	for range 2 {
		if l := know.Closed(x, append(list(first), shut...)); len(l) != 2*len(shut)+1 {
			t.Errorf("P3.1: %d follow of %d", len(l), len(shut))
		}
		if l := know.Closed(x, append(slices.Clone(shut), first)); len(l) != 2*len(shut)+1 {
			t.Errorf("P3.1: %d follow of %d", len(l), len(shut))
		}
		slices.Reverse(shut)
	}
}

func TestR4NothingIsChanged(t *testing.T) {
	x := filled(t)
	base := list(sealed, b, row, ends, 99, 99)
	was := slices.Clone(base)
	l := know.Closed(x, base[:4])
	know.Can(x, base[:4], shared)
	m := know.New(x)
	m.Learn(base[:4])
	if !slices.Equal(base, was) || x.Size() != int(ends)-1 {
		t.Error("R4: the base or the table is changed")
	}
	base[1] = a
	knows := m.Knows()
	if !slices.Equal(knows, l) || m.Can(a) || !m.Can(b) {
		t.Error("R4: what was handed in is kept")
	}
	for i := range knows {
		knows[i] = a
	}
	_ = append(knows[:0], 98, 99)
	if !slices.Equal(m.Knows(), l) || m.Can(a) {
		t.Error("R4: what was handed out is kept")
	}
}
