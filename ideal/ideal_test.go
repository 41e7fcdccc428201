package ideal_test

import (
	"bytes"
	"slices"
	"strings"
	"testing"

	"shibboleth/api"
	"shibboleth/ideal"
	"shibboleth/kinds"
	"shibboleth/term"
)

// long is one byte more than a text may have.
var long = strings.Repeat("l", api.MaxText+1)

// strange are numbers that no term of a table of size terms has.
func strange(size int) []api.Term {
	return []api.Term{-1 << 63, -1, 0, api.Term(size + 1), 1 << 16, 1<<16 + 1, 1 << 32, 1<<63 - 1}
}

// is holds the term of a number against what it has to be.
func is(t *testing.T, x *term.Table, h api.Term, kind int, text string, parts ...api.Term) {
	t.Helper()
	n, there := x.Look(h)
	if !there || n.Kind != kind || n.Text != text || !slices.Equal(n.Parts, parts) {
		t.Errorf("P4.1: the term %d: %v, %t, not %d %q %v", h, n, there, kind, text, parts)
	}
}

// grown holds that a call tells a number, and how many terms it makes.
func grown(t *testing.T, x *term.Table, what string, want api.Term, terms int, call func() api.Term) {
	t.Helper()
	size := x.Size()
	if h := call(); h != want || x.Size() != size+terms {
		t.Errorf("P4.1: %s: %d, with %d more terms, not %d, with %d", what, h, x.Size()-size, want, terms)
	}
}

// nearlyFull is a table that has room for so many terms; its first one is a secret, its second one a text.
func nearlyFull(room int) *term.Table {
	x := term.New()
	x.Secret()
	x.Text([]byte("there"))
	for x.Size() < api.MaxTerms-room {
		x.Secret()
	}
	return x
}

func TestP4_1Derive(t *testing.T) {
	x := term.New()
	s := x.Secret()
	// The texts stand ahead: the context's, then the label's.
	grown(t, x, "no context", 4, 3, func() api.Term { return ideal.Derive(x, s, "label", 0) })
	is(t, x, 2, kinds.Text, "")
	is(t, x, 3, kinds.Text, "label")
	is(t, x, 4, kinds.Derived, "", s, 3, 2)
	grown(t, x, "no context again", 4, 0, func() api.Term { return ideal.Derive(x, s, "label", 0) })
	grown(t, x, "the empty context", 4, 0, func() api.Term { return ideal.Derive(x, s, "label", x.Text(nil)) })
	grown(t, x, "a context", 6, 2, func() api.Term { return ideal.Derive(x, s, "other", 4) })
	is(t, x, 5, kinds.Text, "other")
	is(t, x, 6, kinds.Derived, "", s, 5, 4)
	grown(t, x, "no label", 7, 1, func() api.Term { return ideal.Derive(x, s, "", s) })
	is(t, x, 7, kinds.Derived, "", s, 2, s)
	grown(t, x, "a longest label", 9, 2, func() api.Term { return ideal.Derive(x, s, long[1:], 0) })
	grown(t, x, "bytes that are no letters", 11, 2, func() api.Term { return ideal.Derive(x, s, "\x00\xff\xfe", 3) })
	is(t, x, 10, kinds.Text, "\x00\xff\xfe")
	// A secret to derive of is any term.
	for h := api.Term(1); h <= 11; h++ {
		is(t, x, ideal.Derive(x, h, "label", h), kinds.Derived, "", h, 3, h)
	}
}

func TestP4_1DeriveOfWrong(t *testing.T) {
	x := term.New()
	s := x.Secret()
	grown(t, x, "no secret", 0, 2, func() api.Term { return ideal.Derive(x, 0, "label", 0) }) // the texts stay
	is(t, x, 2, kinds.Text, "")
	is(t, x, 3, kinds.Text, "label")
	grown(t, x, "too long a label", 0, 0, func() api.Term { return ideal.Derive(x, s, long, 0) })
	for _, h := range strange(x.Size()) {
		grown(t, x, "no term's secret", 0, 0, func() api.Term { return ideal.Derive(x, h, "label", 0) })
		if h != 0 {
			grown(t, x, "no term's context", 0, 0, func() api.Term { return ideal.Derive(x, s, "label", h) })
		}
		if ideal.Derive(nil, h, "label", h) != 0 {
			t.Error("P4.1: nil has a derived one")
		}
	}
	grown(t, x, "a new label", 0, 1, func() api.Term { return ideal.Derive(x, s, "new", -1) })
	is(t, x, 4, kinds.Text, "new")
	y := term.New()
	y.Secret()
	grown(t, y, "too long a label, no context", 0, 1, func() api.Term { return ideal.Derive(y, 1, long, 0) })
	is(t, y, 2, kinds.Text, "")
}

func TestP4_1DeriveInAFullTable(t *testing.T) {
	for room, made := range map[int]int{0: 0, 1: 1, 2: 2} {
		x := nearlyFull(room)
		grown(t, x, "too little room", 0, made, func() api.Term { return ideal.Derive(x, 1, "label", 0) })
		grown(t, x, "too little room again", 0, 0, func() api.Term { return ideal.Derive(x, 1, "label", 0) })
	}
	x := nearlyFull(3)
	grown(t, x, "just enough room", api.MaxTerms, 3, func() api.Term { return ideal.Derive(x, 1, "label", 0) })
	grown(t, x, "no room needed", api.MaxTerms, 0, func() api.Term { return ideal.Derive(x, 1, "label", 0) })
	x = nearlyFull(1)
	grown(t, x, "the texts are there", api.MaxTerms, 1, func() api.Term { return ideal.Derive(x, 1, "there", 1) })
}

func TestP4_1Seal(t *testing.T) {
	x := term.New()
	k, m := x.Secret(), x.Secret()
	grown(t, x, "a head", 4, 2, func() api.Term { return ideal.Seal(x, k, []byte("head"), m) })
	is(t, x, 3, kinds.Text, "head")
	is(t, x, 4, kinds.Sealed, "", k, 3, m)
	grown(t, x, "the same again", 4, 0, func() api.Term { return ideal.Seal(x, k, []byte("head"), m) })
	grown(t, x, "no head", 6, 2, func() api.Term { return ideal.Seal(x, k, nil, m) })
	is(t, x, 6, kinds.Sealed, "", k, 5, m)
	grown(t, x, "an empty head", 6, 0, func() api.Term { return ideal.Seal(x, k, []byte{}, m) })
	grown(t, x, "a longest head", 8, 2, func() api.Term { return ideal.Seal(x, k, []byte(long[1:]), m) })
	for h := api.Term(1); h <= 8; h++ {
		is(t, x, ideal.Seal(x, h, []byte("head"), h), kinds.Sealed, "", h, 3, h)
	}
}

func TestP4_1SealOfWrong(t *testing.T) {
	x := term.New()
	k := x.Secret()
	grown(t, x, "no key", 0, 1, func() api.Term { return ideal.Seal(x, 0, []byte("head"), k) }) // the text stays
	is(t, x, 2, kinds.Text, "head")
	grown(t, x, "too long a head", 0, 0, func() api.Term { return ideal.Seal(x, k, []byte(long), k) })
	for _, h := range strange(x.Size()) {
		grown(t, x, "no term's key", 0, 0, func() api.Term { return ideal.Seal(x, h, []byte("head"), k) })
		grown(t, x, "no term's content", 0, 0, func() api.Term { return ideal.Seal(x, k, []byte("head"), h) })
		if ideal.Seal(nil, h, []byte("head"), h) != 0 {
			t.Error("P4.1: nil has a sealed one")
		}
	}
	y := nearlyFull(1)
	grown(t, y, "room for the head alone", 0, 1, func() api.Term { return ideal.Seal(y, 1, []byte("head"), 1) })
	grown(t, y, "no room", 0, 0, func() api.Term { return ideal.Seal(y, 1, []byte("there"), 1) })
	y = nearlyFull(1)
	grown(t, y, "the last one", api.MaxTerms, 1, func() api.Term { return ideal.Seal(y, 1, []byte("there"), 1) })
	if c, ok := ideal.Open(y, 1, []byte("there"), api.MaxTerms); c != 1 || !ok {
		t.Error("P4.1: the last one does not open")
	}
}

// opens holds what Open tells against what it has to tell, and that it makes nothing.
func opens(t *testing.T, x *term.Table, key api.Term, head string, sealed, want api.Term, ok bool) {
	t.Helper()
	size := x.Size()
	if c, is := ideal.Open(x, key, []byte(head), sealed); c != want || is != ok || x.Size() != size {
		t.Errorf("P4.1: with the key %d, the head %.20q, %d: %d, %t, not %d, %t", key, head, sealed, c, is, want, ok)
	}
}

func TestP4_1Open(t *testing.T) {
	x := term.New()
	k, j, m := x.Secret(), x.Secret(), x.Secret()
	s, bare, full := ideal.Seal(x, k, []byte("head"), m), ideal.Seal(x, k, nil, j), ideal.Seal(x, k, []byte(long[1:]), k)
	other := ideal.Seal(x, j, []byte("head"), m)
	opens(t, x, k, "head", s, m, true)
	opens(t, x, k, "", bare, j, true)
	opens(t, x, k, long[1:], full, k, true)
	opens(t, x, j, "head", other, m, true)
	opens(t, x, j, "head", s, 0, false)
	opens(t, x, k, "head", other, 0, false)
	for _, head := range []string{"", "hea", "head ", "heae", "Head", long, long[2:]} {
		opens(t, x, k, head, s, 0, false)
	}
	opens(t, x, k, "head", bare, 0, false)
	for _, h := range strange(x.Size()) {
		opens(t, x, k, "head", h, 0, false)
		opens(t, x, h, "head", s, 0, false)
		opens(t, x, h, "", h, 0, false)
		opens(t, nil, h, "", h, 0, false)
	}
}

// What has a key and a text, too, but is not sealed, does not open.
func TestP4_1OpenOfOtherKinds(t *testing.T) {
	x := term.New()
	k := x.Secret()
	head := x.Text([]byte("head"))
	for _, h := range []api.Term{
		k, head, x.Make(kinds.Row, []api.Term{k, head, k}), x.Make(kinds.Row, nil), x.Make(kinds.Hash, []api.Term{k}),
		x.Make(kinds.Mac, []api.Term{k, head}), ideal.Derive(x, k, "head", k), x.Make(kinds.Public, []api.Term{k}), x.Make(kinds.Signed, []api.Term{k, head}),
	} {
		opens(t, x, k, "head", h, 0, false)
	}
}

func TestP4_1Signs(t *testing.T) {
	x := term.New()
	a, b, m := x.Secret(), x.Secret(), x.Secret()
	pa, pb := x.Make(kinds.Public, []api.Term{a}), x.Make(kinds.Public, []api.Term{b})
	sa, sb := x.Make(kinds.Signed, []api.Term{a, m}), x.Make(kinds.Signed, []api.Term{b, m})
	mac := x.Make(kinds.Mac, []api.Term{a, m})
	nested := x.Make(kinds.Signed, []api.Term{a, sa})
	yes := [][3]api.Term{{pa, m, sa}, {pb, m, sb}, {pa, sa, nested}}
	size := x.Size()
	all := append(strange(size), a, b, m, pa, pb, sa, sb, mac, nested)
	for _, public := range all {
		for _, content := range all {
			for _, signed := range all {
				want := slices.Contains(yes, [3]api.Term{public, content, signed})
				if ideal.Signs(x, public, content, signed) != want {
					t.Errorf("P4.1: %d of %d by %d is signed: %t is wrong", signed, content, public, !want)
				}
				if ideal.Signs(nil, public, content, signed) {
					t.Error("P4.1: nil has a signed one")
				}
			}
		}
	}
	if x.Size() != size {
		t.Error("P4.1: Signs made a term")
	}
}

func TestP4_2Number(t *testing.T) {
	for h := api.Term(1); h <= 1<<16; h++ {
		b := ideal.Number(h)
		if want := []byte{0, byte(h >> 16), byte(h >> 8), byte(h)}; !bytes.Equal(b, want) {
			t.Fatalf("P4.2: %d: %x, not %x", h, b, want)
		}
		if g, ok := ideal.Numbered(b); g != h || !ok {
			t.Fatalf("P4.2: %x: %d, %t", b, g, ok)
		}
	}
	for _, h := range []api.Term{-1 << 63, -65536, -1, 0, 65537, 1 << 17, 1 << 32, 1<<32 + 1, 1<<63 - 1} {
		if b := ideal.Number(h); len(b) != 0 {
			t.Errorf("P4.2: %d has the bytes %x", h, b)
		}
	}
}

func TestP4_2NumberedOfWrong(t *testing.T) {
	for _, b := range []string{
		"", "\x01", "\x00\x01", "\x00\x00\x01", "\x00\x00\x00\x00\x01", "\x00\x00\x00\x01\x00", "\x00\x00\x00\x01\x00\x00\x00\x01",
		"\x00\x00\x00\x00", "\x00\x01\x00\x01", "\x00\x02\x00\x00", "\x01\x00\x00\x00", "\x01\x00\x00\x01", "\x80\x00\x00\x01", "\xff\xff\xff\xff",
	} {
		if h, ok := ideal.Numbered([]byte(b)); h != 0 || ok {
			t.Errorf("P4.2: %x: %d, %t", b, h, ok)
		}
	}
	if h, ok := ideal.Numbered(nil); h != 0 || ok {
		t.Errorf("P4.2: nil: %d, %t", h, ok)
	}
}

func TestP4_2Wrap(t *testing.T) {
	for _, h := range []api.Term{1, 255, 256, 258, 65535, 65536} {
		for _, n := range []int{0, 1, 2, 1199, 1200} {
			want := append([]byte{0, byte(h >> 16), byte(h >> 8), byte(h)}, make([]byte, 12+n)...)
			if b := ideal.Wrap(h, n); !bytes.Equal(b, want) {
				t.Errorf("P4.2: %d and %d: %x", h, n, b)
			}
		}
		for _, n := range []int{-1 << 63, -12, -1, 1201, 1 << 40, 1<<63 - 1} {
			if b := ideal.Wrap(h, n); len(b) != 0 {
				t.Errorf("P4.2: %d and %d: %x", h, n, b)
			}
		}
	}
	for _, h := range []api.Term{-1 << 63, -1, 0, 65537, 1 << 32, 1<<32 + 1, 1<<63 - 1} {
		if b := ideal.Wrap(h, 1); len(b) != 0 {
			t.Errorf("P4.2: %d: %x", h, b)
		}
	}
}

// unwraps holds what Unwrap tells against what it has to tell.
func unwraps(t *testing.T, b []byte, sealed api.Term, n int, ok bool) {
	t.Helper()
	if h, many, is := ideal.Unwrap(b); h != sealed || many != n || is != ok {
		t.Errorf("P4.2: %x: %d, %d, %t, not %d, %d, %t", b, h, many, is, sealed, n, ok)
	}
}

func TestP4_2UnwrapOfWrong(t *testing.T) {
	for many := range 16 {
		unwraps(t, make([]byte, many), 0, 0, false)
		unwraps(t, ideal.Wrap(258, 0)[:many], 0, 0, false)
	}
	unwraps(t, nil, 0, 0, false)
	unwraps(t, append(ideal.Wrap(1, 1200), 0), 0, 0, false)
	unwraps(t, append(ideal.Wrap(1, 1200), make([]byte, 5000)...), 0, 0, false)
	for _, head := range []string{"\x00\x00\x00\x00", "\x00\x01\x00\x01", "\x01\x00\x00\x01", "\xff\xff\xff\xff"} {
		unwraps(t, append([]byte(head), make([]byte, 14)...), 0, 0, false)
	}
	for i := 4; i < 18; i++ {
		for _, x := range []byte{1, 0x80, 0xff} {
			b := ideal.Wrap(258, 2)
			b[i] = x
			unwraps(t, b, 0, 0, false)
		}
	}
	b := ideal.Wrap(1, 1200)
	b[len(b)-1] = 1
	unwraps(t, b, 0, 0, false)
}

func TestP4_3SealedOpensWithItsOwn(t *testing.T) {
	x := term.New()
	a, b := x.Secret(), x.Secret()
	keys := []api.Term{a, b, x.Make(kinds.Public, []api.Term{a}), x.Text([]byte("head")), ideal.Derive(x, a, "key", 0), ideal.Derive(x, a, "update", 0), ideal.Derive(x, b, "key", 0)}
	heads := []string{"", "\x00", "\x00\x00", "head", "heads", long[1:]}
	for i, key := range keys {
		for j, head := range heads {
			content := x.Secret()
			s := ideal.Seal(x, key, []byte(head), content)
			for k, other := range keys {
				for l, wrong := range heads {
					if i == k && j == l {
						opens(t, x, other, wrong, s, content, true)
					} else {
						opens(t, x, other, wrong, s, 0, false)
					}
				}
			}
		}
	}
}

func TestP4_3DerivedKeysDiffer(t *testing.T) {
	x := term.New()
	seen := map[api.Term]int{}
	secrets := []api.Term{x.Secret(), x.Secret(), x.Text([]byte("none"))}
	for _, secret := range secrets {
		for _, label := range []string{"", "key", "keys", "update"} {
			for _, context := range append(secrets, 0) {
				seen[ideal.Derive(x, secret, label, context)]++
			}
		}
	}
	if len(seen) != 48 || seen[0] != 0 {
		t.Errorf("P4.3: 48 keys have the numbers %v", seen)
	}
}

func TestP4_3WrappedIsUnwrapped(t *testing.T) {
	for n := range 1201 {
		for _, h := range []api.Term{1, api.Term(1 + n*54), 65536} {
			unwraps(t, ideal.Wrap(h, n), h, n, true)
		}
	}
	for h := api.Term(1); h <= 65536; h++ {
		unwraps(t, ideal.Wrap(h, int(h)%8), h, int(h)%8, true)
	}
}

func TestR4ArgumentsStayAnswersAreNew(t *testing.T) {
	x := term.New()
	k := x.Secret()
	head := []byte("head....")
	s := ideal.Seal(x, k, head[:4], k)
	ideal.Open(x, k, head[:4], s)
	if string(head) != "head...." {
		t.Errorf("R4: Seal or Open changed the head: %q", head)
	}
	head[0] = 'x'
	opens(t, x, k, "head", s, k, true)

	b := append(ideal.Wrap(258, 1), 0xee, 0xee)
	was := bytes.Clone(b)
	ideal.Unwrap(b[:17])
	ideal.Numbered(b[:4])
	if !bytes.Equal(b, was) {
		t.Errorf("R4: Unwrap or Numbered changed what was handed in: %x", b)
	}
	for range 2 {
		for _, b := range [][]byte{ideal.Number(258), ideal.Wrap(258, 1)} {
			if b[2] != 1 || b[3] != 2 || len(b) == 17 && b[16] != 0 {
				t.Errorf("R4: what was handed out is kept: %x", b)
			}
			for i := range b {
				b[i] = 0xff
			}
		}
	}
}
