package term_test

import (
	"slices"
	"strconv"
	"strings"
	"testing"

	"shibboleth/api"
	"shibboleth/term"
)

// The kinds of the document's table.
const (
	text    = 1
	secret  = 2
	row     = 3
	hash    = 4
	mac     = 5
	derived = 6
	public  = 7
	shared  = 8
	signed  = 9
	sealed  = 10
)

func parts(l ...api.Term) []api.Term { return l }

// filled is a table with one term of each kind, whose number is its kind; and a text, another secret and its public one behind them.
func filled(t *testing.T) *term.Table {
	t.Helper()
	x := term.New()
	for i, h := range []api.Term{
		x.Text([]byte("text")),
		x.Secret(),
		x.Make(row, parts(1, 2, 1)),
		x.Make(hash, parts(3)),
		x.Make(mac, parts(2, 4)),
		x.Make(derived, parts(2, 1, 5)),
		x.Make(public, parts(2)),
		x.Make(shared, parts(2, 7)),
		x.Make(signed, parts(2, 8)),
		x.Make(sealed, parts(8, 1, 9)),
		x.Text([]byte("other")),
		x.Secret(),
		x.Make(public, parts(12)),
	} {
		if h != api.Term(i+1) {
			t.Fatalf("P2.1: the term %d has the number %d", i+1, h)
		}
	}
	return x
}

// is holds the term of a number against what it has to be.
func is(t *testing.T, x *term.Table, h api.Term, kind int, bytes string, l ...api.Term) {
	t.Helper()
	n, there := x.Look(h)
	if !there || n.Kind != kind || n.Text != bytes || !slices.Equal(n.Parts, l) {
		t.Errorf("Look(%d): %v, %t, not %d %q %v", h, n, there, kind, bytes, l)
	}
}

// refused holds that nothing was made, and nothing changed.
func refused(t *testing.T, x *term.Table, what string, make func() api.Term) {
	t.Helper()
	size := x.Size()
	if h := make(); h != 0 || x.Size() != size {
		t.Errorf("P2.1: %s: the number %d, of %d terms %d", what, h, size, x.Size())
	}
}

func TestP2_1NewIsEmpty(t *testing.T) {
	x, y := term.New(), term.New()
	if x.Size() != 0 || x.Secret() != 1 || y.Size() != 0 || y.Text(nil) != 1 {
		t.Error("a new table is not empty, or not one of its own")
	}
}

func TestP2_1SameTermSameNumber(t *testing.T) {
	x := filled(t)
	for range 2 {
		for want, h := range map[api.Term]api.Term{
			1: x.Text([]byte("text")), 3: x.Make(row, parts(1, 2, 1)), 4: x.Make(hash, parts(3)),
			5: x.Make(mac, parts(2, 4)), 6: x.Make(derived, parts(2, 1, 5)), 7: x.Make(public, parts(2)),
			8: x.Make(shared, parts(2, 7)), 9: x.Make(signed, parts(2, 8)), 10: x.Make(sealed, parts(8, 1, 9)),
			11: x.Text([]byte("other")), 13: x.Make(public, parts(12)),
		} {
			if h != want {
				t.Errorf("the term %d has the number %d now", want, h)
			}
		}
	}
	if x.Size() != 13 {
		t.Errorf("%d terms, not 13", x.Size())
	}
}

func TestP2_1SecretsAreNew(t *testing.T) {
	x := term.New()
	for want := range api.Term(5) {
		if h := x.Secret(); h != want+1 {
			t.Errorf("the secret %d has the number %d", want+1, h)
		}
	}
}

func TestP2_1Texts(t *testing.T) {
	x := term.New()
	long := strings.Repeat("a", 2049)
	for i, b := range []string{"", "\x00", "\x00\x00", "a", "\xff\xfe", long[:2047], long[:2048]} {
		h := x.Text([]byte(b))
		if h != api.Term(i+1) || x.Text([]byte(b)) != h {
			t.Errorf("the text %d has the number %d", i+1, h)
		}
		is(t, x, h, text, b)
	}
	if x.Text(nil) != 1 {
		t.Error("no bytes are not the empty text")
	}
	refused(t, x, "2049 bytes", func() api.Term { return x.Text([]byte(long)) })
	refused(t, x, "4096 bytes", func() api.Term { return x.Text(make([]byte, 4096)) })
}

func TestP2_1Rows(t *testing.T) {
	x := filled(t)
	all := parts(1, 2, 3, 4, 5, 6, 7, 8, 9, 10, 11, 12, 13, 1, 1, 1, 1)
	for many := range 17 {
		h := x.Make(row, all[:many])
		if h != api.Term(14+many) {
			t.Errorf("the row of %d has the number %d", many, h)
		}
		is(t, x, h, row, "", all[:many]...)
	}
	if x.Make(row, nil) != 14 || x.Make(row, parts()) != 14 {
		t.Error("an empty row is not the same one")
	}
	if x.Make(row, parts(1, 2)) == x.Make(row, parts(2, 1)) {
		t.Error("a row's order does not count")
	}
	refused(t, x, "a row of 17", func() api.Term { return x.Make(row, all) })
	refused(t, x, "a row of 100", func() api.Term { return x.Make(row, make([]api.Term, 100)) })
}

func TestP2_1KindsCount(t *testing.T) {
	x := filled(t)
	seen := map[api.Term]int{}
	for _, h := range []api.Term{
		x.Make(row, parts(2)), x.Make(hash, parts(2)), x.Make(public, parts(2)),
		x.Make(row, parts(2, 2)), x.Make(mac, parts(2, 2)), x.Make(shared, parts(2, 7)), x.Make(signed, parts(2, 2)),
		x.Make(row, parts(2, 1, 2)), x.Make(derived, parts(2, 1, 2)), x.Make(sealed, parts(2, 1, 2)),
		x.Make(mac, parts(2, 1)), x.Make(mac, parts(1, 2)),
	} {
		seen[h]++
	}
	if len(seen) != 12 || seen[0] != 0 {
		t.Errorf("12 terms have the numbers %v", seen)
	}
}

func TestP2_1SharedOfBothSides(t *testing.T) {
	x := filled(t)
	h := x.Make(shared, parts(12, 7))
	if h != 14 || x.Make(shared, parts(2, 13)) != h || x.Size() != 14 {
		t.Errorf("both sides have not the same shared one: %d", h)
	}
	is(t, x, h, shared, "", 2, 12)
	// Of a secret and its own public one there is one, too.
	is(t, x, x.Make(shared, parts(12, 13)), shared, "", 12, 12)
}

func TestP2_1WrongKinds(t *testing.T) {
	x := filled(t)
	for _, kind := range []int{-1 << 63, -1, 0, text, secret, 11, 12, 1 << 40} {
		for _, l := range [][]api.Term{nil, {1}, {2}, {2, 1}, {2, 7}, {2, 1, 1}} {
			refused(t, x, "the kind "+strconv.Itoa(kind), func() api.Term { return x.Make(kind, l) })
		}
	}
}

func TestP2_1WrongParts(t *testing.T) {
	x := filled(t)
	wrong := map[int][][]api.Term{
		row:     {{0}, {-1}, {14}, {1, 2, 0}, {1 << 62}, {0, 1}},
		hash:    {nil, {0}, {-1}, {14}, {1, 1}, {1, 0}},
		mac:     {nil, {1}, {1, 0}, {0, 1}, {14, 1}, {1, 14}, {1, 1, 1}},
		derived: {nil, {2, 1}, {2, 1, 0}, {0, 1, 2}, {2, 0, 1}, {2, 14, 1}, {2, 1, 14}, {2, 1, 1, 1}},
		public:  {nil, {0}, {14}, {-1}, {2, 2}, {2, 1}},
		shared:  {nil, {2}, {7}, {0, 7}, {2, 0}, {14, 7}, {2, 14}, {2, 12}, {7, 2}, {7, 13}, {2, 7, 7}},
		signed:  {nil, {2}, {0, 1}, {2, 0}, {14, 1}, {2, 14}, {2, 1, 1}},
		sealed:  {nil, {2, 1}, {0, 1, 1}, {2, 0, 1}, {2, 1, 0}, {2, 1, 14}, {2, 14, 1}, {14, 1, 1}, {2, 1, 1, 1}},
	}
	// What must be a secret, a text or a public one is nothing else.
	for h := api.Term(1); h <= 13; h++ {
		if h != 2 && h != 12 {
			wrong[public] = append(wrong[public], parts(h))
			wrong[shared] = append(wrong[shared], parts(h, 7))
			wrong[signed] = append(wrong[signed], parts(h, 1))
		}
		if h != 1 && h != 11 {
			wrong[derived] = append(wrong[derived], parts(1, h, 1))
			wrong[sealed] = append(wrong[sealed], parts(1, h, 1))
		}
		if h != 7 && h != 13 {
			wrong[shared] = append(wrong[shared], parts(2, h))
		}
	}
	for kind, all := range wrong {
		for _, l := range all {
			refused(t, x, strconv.Itoa(kind), func() api.Term { return x.Make(kind, l) })
		}
	}
	if h := x.Secret(); h != 14 {
		t.Errorf("P2.1: behind what was refused the next number is %d", h)
	}
}

func TestP2_1PartsOfAllKinds(t *testing.T) {
	x := filled(t)
	for h := api.Term(1); h <= 13; h++ {
		for kind, l := range map[int][]api.Term{hash: {h}, signed: {2, h}} {
			is(t, x, x.Make(kind, l), kind, "", l...)
		}
		for k := api.Term(1); k <= 13; k++ {
			for kind, l := range map[int][]api.Term{mac: {k, h}, derived: {k, 11, h}, sealed: {k, 11, h}} {
				is(t, x, x.Make(kind, l), kind, "", l...)
			}
		}
	}
}

func TestP2_1FullTable(t *testing.T) {
	x := filled(t)
	for want := 14; want <= 1<<16; want++ {
		if h := x.Secret(); h != api.Term(want) {
			t.Fatalf("the secret %d has the number %d", want, h)
		}
	}
	refused(t, x, "a secret in a full table", x.Secret)
	refused(t, x, "a text in a full table", func() api.Term { return x.Text([]byte("new")) })
	refused(t, x, "a row in a full table", func() api.Term { return x.Make(row, parts(1)) })
	refused(t, x, "a shared one in a full table", func() api.Term { return x.Make(shared, parts(12, 13)) })
	refused(t, x, "the same again", func() api.Term { return x.Text([]byte("new")) })
	// What is there already needs no room.
	if x.Text([]byte("text")) != 1 || x.Make(shared, parts(2, 7)) != 8 || x.Size() != 1<<16 {
		t.Error("a full table does not tell what it has")
	}
	is(t, x, 1<<16, secret, "")
	if last := x.Make(row, parts(1<<16)); last != 0 {
		t.Errorf("the number %d", last)
	}
}

func TestP2_1LastOne(t *testing.T) {
	x := term.New()
	for range 1<<16 - 1 {
		x.Secret()
	}
	if h := x.Make(public, parts(1<<16-1)); h != 1<<16 || x.Make(public, parts(1<<16-1)) != h {
		t.Errorf("the last term has the number %d", h)
	}
	is(t, x, 1<<16, public, "", 1<<16-1)
}

func TestP2_2Look(t *testing.T) {
	x := filled(t)
	is(t, x, 1, text, "text")
	is(t, x, 2, secret, "")
	is(t, x, 3, row, "", 1, 2, 1)
	is(t, x, 4, hash, "", 3)
	is(t, x, 5, mac, "", 2, 4)
	is(t, x, 6, derived, "", 2, 1, 5)
	is(t, x, 7, public, "", 2)
	is(t, x, 8, shared, "", 2, 2)
	is(t, x, 9, signed, "", 2, 8)
	is(t, x, 10, sealed, "", 8, 1, 9)
	is(t, x, 11, text, "other")
	is(t, x, 12, secret, "")
	is(t, x, 13, public, "", 12)
	if x.Size() != 13 {
		t.Errorf("Look or Size changed the table: %d", x.Size())
	}
}

// nothing holds that there is no such term.
func nothing(t *testing.T, x *term.Table, h api.Term) {
	t.Helper()
	if n, there := x.Look(h); there || n.Kind != 0 || n.Text != "" || len(n.Parts) != 0 {
		t.Errorf("Look(%d): %v, %t", h, n, there)
	}
}

func TestP2_2LookOfNothing(t *testing.T) {
	x := filled(t)
	for _, h := range []api.Term{-1 << 63, -13, -1, 0, 14, 1 << 16, 1<<16 + 1, 1 << 32, 1<<63 - 1} {
		nothing(t, x, h)
	}
	nothing(t, term.New(), 1)
}

func TestP2_2OfNil(t *testing.T) {
	var x *term.Table
	if x.Text(nil) != 0 || x.Text([]byte("text")) != 0 || x.Secret() != 0 || x.Size() != 0 {
		t.Error("nil has a term")
	}
	for kind := range 12 {
		for _, l := range [][]api.Term{nil, {1}, {1, 1}, {1, 1, 1}} {
			if x.Make(kind, l) != 0 {
				t.Errorf("nil makes the kind %d", kind)
			}
		}
	}
	for _, h := range []api.Term{-1, 0, 1} {
		nothing(t, x, h)
	}
}

// It makes many terms of few parts, and holds that no two are the same, and that each is behind its parts.
func TestP2_3DifferentTermsDifferentNumbers(t *testing.T) {
	x := filled(t)
	for range 2 {
		for a := api.Term(0); a <= 14; a++ {
			for kind := range 12 {
				x.Make(kind, parts(a))
				for b := api.Term(0); b <= 14; b++ {
					x.Make(kind, parts(a, b))
					x.Make(kind, parts(a, 11, b))
					x.Make(kind, parts(a, b, 11, a))
				}
			}
		}
	}
	type seen struct {
		kind  int
		bytes string
		parts [4]api.Term
	}
	all := map[seen]api.Term{}
	for h := api.Term(1); int(h) <= x.Size(); h++ {
		n, _ := x.Look(h)
		one := seen{kind: n.Kind, bytes: n.Text}
		copy(one.parts[:], n.Parts)
		if was := all[one]; was != 0 && n.Kind != secret {
			t.Errorf("%d and %d are the same one", was, h)
		}
		all[one] = h
		for _, p := range n.Parts {
			if p < 1 || p >= h {
				t.Errorf("%d has the part %d", h, p)
			}
		}
	}
	if len(all) < 1000 {
		t.Errorf("only %d terms", len(all))
	}
}

func TestR4WhatIsHandedInIsNotKept(t *testing.T) {
	x := filled(t)
	b := []byte("kept")
	h := x.Text(b)
	b[0] = 'x'
	is(t, x, h, text, "kept")
	l := parts(12, 11, 2, 99, 99)
	for kind, many := range map[int]int{row: 3, mac: 2, derived: 3, sealed: 3, signed: 2} {
		copy(l, parts(12, 11, 2))
		g := x.Make(kind, l[:many])
		if !slices.Equal(l, parts(12, 11, 2, 99, 99)) {
			t.Errorf("the kind %d changed what was handed in: %v", kind, l)
		}
		l[0], l[1] = 3, 3
		is(t, x, g, kind, "", parts(12, 11, 2)[:many]...)
		if x.Make(kind, parts(12, 11, 2)[:many]) != g {
			t.Errorf("a term of the kind %d is not found again", kind)
		}
	}
	s := parts(12, 7, 99)
	g := x.Make(shared, s[:2])
	if !slices.Equal(s, parts(12, 7, 99)) {
		t.Errorf("a shared one changed what was handed in: %v", s)
	}
	is(t, x, g, shared, "", 2, 12)
}

func TestR4WhatIsHandedOutIsNew(t *testing.T) {
	x := filled(t)
	for h := api.Term(1); h <= 13; h++ {
		n, _ := x.Look(h)
		was := slices.Clone(n.Parts)
		for i := range n.Parts {
			n.Parts[i] = 99
		}
		_ = append(n.Parts, 98)
		is(t, x, h, n.Kind, n.Text, was...)
	}
	if x.Make(row, parts(1, 2, 1)) != 3 {
		t.Error("what was handed out is what is looked for")
	}
}
