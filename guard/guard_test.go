package guard_test

import (
	"bytes"
	"math"
	"slices"
	"strings"
	"testing"

	"shibboleth/api"
	"shibboleth/fields"
	"shibboleth/guard"
	"shibboleth/header"
	"shibboleth/ideal"
	"shibboleth/kinds"
	"shibboleth/pnum"
	"shibboleth/term"
)

const (
	top       = 1<<62 - 1
	sealedFor = 16 // bytes of a sealed thing, beside as many as its content has
)

// noLevels are ints that no level is; some would be one, if only their lowest bits were looked at.
var noLevels = []int{math.MinInt, -1 << 32, -4, -1, 4, 5, 7, 8, 256, 1 << 32, math.MaxInt}

// levels are all there are.
var levels = []int{api.Initial, api.Early, api.Handshake, api.App}

// strange are numbers that no term of a table has, and that are not 0.
func strange(x *term.Table) []api.Term {
	return []api.Term{math.MinInt, -1, api.Term(x.Size() + 1), api.MaxTerms, api.MaxTerms + 1, 1 << 32, math.MaxInt}
}

// head is a right header of a level.
func head(level, width int) header.Header {
	if level == api.App {
		return header.Header{Kind: level, To: []byte("eight..."), Width: width}
	}
	h := header.Header{Kind: level, Version: 1, To: []byte("to"), From: []byte("from"), Width: width}
	if level == api.Initial {
		h.Token = []byte("token")
	}
	return h
}

// derived is the key that is derived of a secret by a label.
func derived(x *term.Table, secret api.Term, label string) api.Term {
	return x.Make(kinds.Derived, []api.Term{secret, x.Text([]byte(label)), x.Text(nil)})
}

// secretOf is a generation's secret, where the first one's is told.
func secretOf(x *term.Table, first api.Term, generation int) api.Term {
	for range generation {
		first = derived(x, first, "update")
	}
	return first
}

// by is a packet's bytes as the words say, sealed by a secret, with the phase that its header has.
func by(x *term.Table, secret api.Term, h header.Header, full int, content api.Term, n int) []byte {
	h.Number = pnum.Cut(full, h.Width)
	front := header.Write(h, sealedFor+n)
	bound := x.Text(fields.Append(slices.Clone(front), full, 8))
	sealed := x.Make(kinds.Sealed, []api.Term{derived(x, secret, "key"), bound, content})
	return append(append(front, ideal.Number(sealed)...), make([]byte, 12+n)...)
}

// packetOf is the packet that bytes are.
func packetOf(t *testing.T, b []byte) header.Packet {
	t.Helper()
	l, e := header.Split(b)
	if e != api.OK || len(l) != 1 {
		t.Fatalf("P12.2: %x: %d packets, %d", b, len(l), e)
	}
	return l[0]
}

// forged is the packet of a generation of a secret, at the level 3.
func forged(t *testing.T, x *term.Table, first api.Term, generation, full int) header.Packet {
	t.Helper()
	h := head(api.App, 2)
	h.Phase = generation % 2
	return packetOf(t, by(x, secretOf(x, first, generation), h, full, contentOf(x, full), 4))
}

// contentOf is what the packets of these tests have, by their number.
func contentOf(x *term.Table, full int) api.Term {
	return x.Text(fields.Append([]byte("content "), full, 8))
}

// sealed is a packet of a guard.
func sealed(t *testing.T, x *term.Table, g *guard.Guard, level, full int) header.Packet {
	t.Helper()
	b, e := g.Seal(head(level, 2), full, contentOf(x, full), 4)
	if e != api.OK {
		t.Fatalf("P12.2: Seal of %d at the level %d: %d", full, level, e)
	}
	return packetOf(t, b)
}

// opens holds that a packet opens to what packets of that number have.
func opens(t *testing.T, x *term.Table, g *guard.Guard, p header.Packet, full int) {
	t.Helper()
	o, e := g.Open(p)
	if want := (guard.Opened{Level: p.Header.Kind, Number: full, Content: contentOf(x, full), Size: 4}); o != want || e != api.OK {
		t.Errorf("P12.2: %d at the level %d: %+v, %d", full, p.Header.Kind, o, e)
	}
}

// shuts holds that a packet does not open, and why.
func shuts(t *testing.T, g *guard.Guard, p header.Packet, want api.Errno) {
	t.Helper()
	if o, e := g.Open(p); o != (guard.Opened{}) || e != want {
		t.Errorf("P12.2: %+v: %+v, %d, not %d", p.Header, o, e, want)
	}
}

// refuses holds that a packet is not sealed, and why.
func refuses(t *testing.T, g *guard.Guard, h header.Header, full int, content api.Term, n int, want api.Errno) {
	t.Helper()
	if b, e := g.Seal(h, full, content, n); len(b) != 0 || e != want {
		t.Errorf("P12.2: Seal(%+v, %d, %d, %d): %x, %d, not %d", h, full, content, n, b, e, want)
	}
}

// installs holds what Install tells.
func installs(t *testing.T, g *guard.Guard, level int, read, write api.Term, want api.Errno) {
	t.Helper()
	if e := g.Install(level, read, write); e != want {
		t.Errorf("P12.1: Install(%d, %d, %d): %d, not %d", level, read, write, e, want)
	}
}

// has holds what Has tells.
func has(t *testing.T, g *guard.Guard, level int, read, write bool) {
	t.Helper()
	if r, w := g.Has(level); r != read || w != write {
		t.Errorf("P12.1: Has(%d): %t, %t, not %t, %t", level, r, w, read, write)
	}
}

// drops holds what Drop tells.
func drops(t *testing.T, g *guard.Guard, level int, want api.Errno) {
	t.Helper()
	if e := g.Drop(level); e != want {
		t.Errorf("P12.1: Drop(%d): %d, not %d", level, e, want)
	}
}

// updates holds what Update tells, and that it changes no more than it says.
func updates(t *testing.T, g *guard.Guard, want api.Errno) {
	t.Helper()
	read, write := g.Phases()
	if e := g.Update(); e != want {
		t.Errorf("P12.3: Update: %d, not %d", e, want)
	}
	if want == api.OK {
		write++
	}
	phases(t, g, read, write)
}

// phases holds what Phases tells.
func phases(t *testing.T, g *guard.Guard, read, write int) {
	t.Helper()
	if r, w := g.Phases(); r != read || w != write {
		t.Errorf("P12.3: Phases: %d, %d, not %d, %d", r, w, read, write)
	}
}

// pair is two guards that have the same secrets, the other way round, at all levels.
func pair(t *testing.T) (x *term.Table, a, b *guard.Guard) {
	t.Helper()
	x = term.New()
	a, b = guard.New(x), guard.New(x)
	for _, level := range levels {
		r, w := x.Secret(), x.Secret()
		installs(t, a, level, r, w, api.OK)
		installs(t, b, level, w, r, api.OK)
	}
	return x, a, b
}

// reader is a guard that reads at the level 3 by a secret, and the secret.
func reader(t *testing.T) (x *term.Table, g *guard.Guard, secret api.Term) {
	t.Helper()
	x = term.New()
	g, secret = guard.New(x), x.Secret()
	installs(t, g, api.App, secret, 0, api.OK)
	return x, g, secret
}

// filled lets a table have room for so many terms.
func filled(x *term.Table, room int) {
	for x.Size() < api.MaxTerms-room {
		x.Secret()
	}
}

func TestP12_1NewHasNoKeys(t *testing.T) {
	x := term.New()
	secret := x.Secret()
	for _, g := range []*guard.Guard{guard.New(x), guard.New(nil)} {
		for _, level := range append(slices.Clone(levels), noLevels...) {
			has(t, g, level, false, false)
		}
		phases(t, g, 0, 0)
		updates(t, g, api.ErrState)
	}
	for _, level := range levels {
		g := guard.New(x)
		refuses(t, g, head(level, 1), 0, secret, 0, api.ErrKey)
		shuts(t, g, packetOf(t, by(x, secret, head(level, 1), 0, secret, 0)), api.ErrKey)
	}
}

func TestP12_1NoTable(t *testing.T) {
	g := guard.New(nil)
	if g == nil {
		t.Fatal("P12.1: New(nil) is nil")
	}
	for _, level := range levels {
		installs(t, g, level, 1, 0, api.ErrArg)
		installs(t, g, level, 0, 1, api.ErrArg)
		installs(t, g, level, 0, 0, api.OK)
		refuses(t, g, head(level, 1), 0, 1, 0, api.ErrArg)
		drops(t, g, level, api.OK)
		drops(t, g, level, api.ErrState)
	}
}

func TestP12_1InstallOnEachSide(t *testing.T) {
	x := term.New()
	r, w := x.Secret(), x.Secret()
	for _, level := range levels {
		g := guard.New(x)
		installs(t, g, level, 0, 0, api.OK)
		has(t, g, level, false, false)
		installs(t, g, level, r, 0, api.OK)
		has(t, g, level, true, false)
		installs(t, g, level, 0, w, api.OK)
		has(t, g, level, true, true)
		installs(t, g, level, 0, 0, api.OK)

		g = guard.New(x)
		installs(t, g, level, 0, w, api.OK)
		has(t, g, level, false, true)
		installs(t, g, level, r, 0, api.OK)
		has(t, g, level, true, true)

		g = guard.New(x)
		installs(t, g, level, r, w, api.OK)
		for _, other := range levels {
			has(t, g, other, other == level, other == level)
		}
		opens(t, x, g, packetOf(t, by(x, r, head(level, 2), 5, contentOf(x, 5), 4)), 5)
		if want := by(x, w, head(level, 2), 5, contentOf(x, 5), 4); !bytes.Equal(sealed(t, x, g, level, 5).Body, packetOf(t, want).Body) {
			t.Errorf("P12.1: at the level %d the other secret seals", level)
		}
	}
}

func TestP12_1InstallTwice(t *testing.T) {
	x := term.New()
	r, w, other := x.Secret(), x.Secret(), x.Secret()
	for _, level := range levels {
		g := guard.New(x)
		installs(t, g, level, r, 0, api.OK)
		for _, again := range []api.Term{r, other} {
			installs(t, g, level, again, 0, api.ErrState)
			// What is refused on the one side is not there on the other one either.
			installs(t, g, level, again, w, api.ErrState)
			has(t, g, level, true, false)
		}
		installs(t, g, level, 0, w, api.OK)
		for _, again := range []api.Term{w, other} {
			installs(t, g, level, 0, again, api.ErrState)
			installs(t, g, level, again, again, api.ErrState)
		}
		opens(t, x, g, packetOf(t, by(x, r, head(level, 2), 1, contentOf(x, 1), 4)), 1)

		g = guard.New(x)
		installs(t, g, level, 0, w, api.OK)
		installs(t, g, level, r, other, api.ErrState)
		has(t, g, level, false, true)
		installs(t, g, level, r, 0, api.OK)
	}
}

func TestP12_1InstallOfWrong(t *testing.T) {
	x := term.New()
	r, w := x.Secret(), x.Secret()
	g := guard.New(x)
	for _, level := range noLevels {
		installs(t, g, level, r, w, api.ErrArg)
		installs(t, g, level, 0, 0, api.ErrArg)
		has(t, g, level, false, false)
	}
	for _, level := range levels {
		for _, h := range strange(x) {
			installs(t, g, level, h, 0, api.ErrArg)
			installs(t, g, level, 0, h, api.ErrArg)
			installs(t, g, level, h, w, api.ErrArg)
			installs(t, g, level, r, h, api.ErrArg)
			has(t, g, level, false, false)
		}
	}
	// ErrArg is named ahead of ErrState.
	for _, level := range levels {
		installs(t, g, level, r, w, api.OK)
		for range 2 {
			for _, h := range strange(x) {
				installs(t, g, level, h, w, api.ErrArg)
				installs(t, g, level, r, h, api.ErrArg)
			}
			g.Drop(level)
		}
	}
	// A term that comes later is one then.
	g = guard.New(x)
	later := api.Term(x.Size() + 1)
	installs(t, g, api.App, later, 0, api.ErrArg)
	x.Text([]byte("later"))
	installs(t, g, api.App, later, 0, api.OK)
}

func TestP12_1AnyTermIsASecret(t *testing.T) {
	x := term.New()
	s := x.Secret()
	text := x.Text([]byte("none"))
	for _, h := range []api.Term{s, text, x.Make(kinds.Row, nil), x.Make(kinds.Hash, []api.Term{s}), x.Make(kinds.Public, []api.Term{s}), derived(x, s, "key")} {
		for _, level := range levels {
			g := guard.New(x)
			installs(t, g, level, h, h, api.OK)
			opens(t, x, g, sealed(t, x, g, level, 3), 3)
		}
	}
}

func TestP12_1Drop(t *testing.T) {
	for _, level := range levels {
		x, a, b := pair(t)
		p := sealed(t, x, a, level, 9)
		drops(t, b, level, api.OK)
		for range 2 {
			has(t, b, level, false, false)
			shuts(t, b, p, api.ErrKey)
			refuses(t, b, head(level, 1), 0, 1, 0, api.ErrKey)
			for _, h := range []api.Term{0, 1} {
				installs(t, b, level, h, 0, api.ErrState)
				installs(t, b, level, 0, h, api.ErrState)
				installs(t, b, level, h, h, api.ErrState)
			}
			drops(t, b, level, api.ErrState)
		}
		for _, other := range levels {
			has(t, b, other, other != level, other != level)
			if other != level {
				opens(t, x, b, sealed(t, x, a, other, 9), 9)
				opens(t, x, a, sealed(t, x, b, other, 9), 9)
			}
		}
	}
}

func TestP12_1DropOfWrongAndOfEmpty(t *testing.T) {
	x := term.New()
	secret := x.Secret()
	for _, level := range levels {
		g := guard.New(x)
		for _, none := range noLevels {
			drops(t, g, none, api.ErrArg)
			drops(t, g, none, api.ErrArg)
		}
		drops(t, g, level, api.OK)
		drops(t, g, level, api.ErrState)
		installs(t, g, level, secret, 0, api.ErrState)
		// With one secret of the two, likewise.
		g = guard.New(x)
		installs(t, g, level, 0, secret, api.OK)
		drops(t, g, level, api.OK)
		has(t, g, level, false, false)
		installs(t, g, level, secret, 0, api.ErrState)
	}
}

func TestP12_1NoGuard(t *testing.T) {
	x := term.New()
	secret := x.Secret()
	var g *guard.Guard
	for _, level := range append(slices.Clone(levels), noLevels...) {
		installs(t, g, level, secret, secret, api.ErrArg)
		installs(t, g, level, 0, 0, api.ErrArg)
		has(t, g, level, false, false)
		drops(t, g, level, api.ErrArg)
	}
	for _, level := range levels {
		refuses(t, g, head(level, 1), 0, secret, 0, api.ErrArg)
		shuts(t, g, packetOf(t, by(x, secret, head(level, 1), 0, secret, 0)), api.ErrArg)
		shuts(t, g, header.Packet{}, api.ErrArg)
	}
	if e := g.Update(); e != api.ErrArg {
		t.Errorf("P12.3: Update of none: %d", e)
	}
	phases(t, g, 0, 0)
}

func TestP12_2ExampleOfTheChapter(t *testing.T) {
	x := term.New()
	g, a := guard.New(x), x.Secret()
	installs(t, g, api.Initial, a, a, api.OK)
	p := sealed(t, x, g, api.Initial, 0)
	opens(t, x, g, p, 0)
	shuts(t, g, p, api.ErrTwice)
}

func TestP12_2SealsBytes(t *testing.T) {
	for _, level := range levels {
		for width := 1; width <= 4; width++ {
			for _, n := range []int{0, 1, 2, 47, 48, 1199, 1200} {
				for _, full := range []int{0, 1, 255, 256, 258, 1<<32 + 258, top - 1, top} {
					x := term.New()
					g, w := guard.New(x), x.Secret()
					installs(t, g, level, 0, w, api.OK)
					h := head(level, width)
					b, e := g.Seal(h, full, w, n)
					if want := by(x, w, h, full, w, n); !bytes.Equal(b, want) || e != api.OK {
						t.Fatalf("P12.2: level %d, width %d, %d bytes, number %d: %.80x, %d, not %.80x", level, width, n, full, b, e, want)
					}
				}
			}
		}
	}
}

func TestP12_2SealPutsNumberAndPhase(t *testing.T) {
	_, a, _ := pair(t)
	for range 2 {
		_, generation := a.Phases()
		for _, level := range levels {
			want, e := a.Seal(head(level, 2), 700, 1, 8)
			if e != api.OK {
				t.Fatalf("P12.2: %d", e)
			}
			for _, number := range []int{math.MinInt, -1, 0, 1, 700, 65535, 65536, math.MaxInt} {
				h := head(level, 2)
				h.Number = number
				if b, e := a.Seal(h, 700, 1, 8); !bytes.Equal(b, want) || e != api.OK {
					t.Errorf("P12.2: level %d with the number %d: %x, %d", level, number, b, e)
				}
			}
			p := packetOf(t, want)
			if p.Header.Number != 700 || level == api.App && p.Header.Phase != generation {
				t.Errorf("P12.2: %+v", p.Header)
			}
		}
		for _, phase := range []int{math.MinInt, -1, 0, 1, 2, math.MaxInt} {
			h := head(api.App, 2)
			h.Phase = phase
			if b, e := a.Seal(h, 700, 1, 8); e != api.OK || packetOf(t, b).Header.Phase != generation {
				t.Errorf("P12.2: phase %d: %x, %d", phase, b, e)
			}
		}
		updates(t, a, []api.Errno{api.OK, api.ErrState}[generation])
	}
}

// wrongHeaders are headers of a level that are not right, whatever number and phase they get.
func wrongHeaders(level int) []header.Header {
	l := []header.Header{{Kind: level}}
	put := func(change func(h *header.Header)) {
		h := head(level, 2)
		change(&h)
		l = append(l, h)
	}
	for _, width := range []int{math.MinInt, -1, 0, 5, 8, math.MaxInt} {
		put(func(h *header.Header) { h.Width = width })
	}
	put(func(h *header.Header) { h.To = make([]byte, 21) })
	put(func(h *header.Header) { h.From = make([]byte, 21) })
	if level == api.App {
		put(func(h *header.Header) { h.To = make([]byte, 7) })
		put(func(h *header.Header) { h.Version = 1 })
		put(func(h *header.Header) { h.Token = make([]byte, 1) })
		return l
	}
	put(func(h *header.Header) { h.Version = 0 })
	put(func(h *header.Header) { h.Version = 1 << 32 })
	put(func(h *header.Header) { h.Phase = 1 })
	put(func(h *header.Header) { h.Token = make([]byte, 65) })
	if level != api.Initial {
		put(func(h *header.Header) { h.Token = make([]byte, 1) })
	}
	return l
}

func TestP12_2SealOfWrong(t *testing.T) {
	x, a, _ := pair(t)
	bare := guard.New(x)
	size := x.Size()
	for _, g := range []*guard.Guard{a, bare} {
		// ErrArg is named ahead of ErrKey.
		for _, level := range levels {
			for _, h := range wrongHeaders(level) {
				refuses(t, g, h, 7, 1, 4, api.ErrArg)
			}
			for _, full := range []int{math.MinInt, math.MinInt + 1, -1 << 62, -256, -1, top + 1, top + 2, math.MaxInt} {
				refuses(t, g, head(level, 2), full, 1, 4, api.ErrArg)
			}
			for _, content := range append(strange(x), 0) {
				refuses(t, g, head(level, 2), 7, content, 4, api.ErrArg)
			}
			for _, n := range []int{math.MinInt, -17, -16, -1, 1201, 1202, 1 << 14, math.MaxInt} {
				refuses(t, g, head(level, 2), 7, 1, n, api.ErrArg)
			}
		}
		for _, kind := range noLevels {
			for _, h := range []header.Header{head(api.App, 2), head(api.Handshake, 2)} {
				h.Kind = kind
				refuses(t, g, h, 7, 1, 4, api.ErrArg)
			}
		}
	}
	if x.Size() != size {
		t.Errorf("P12.2: %d terms were made on the way to ErrArg", x.Size()-size)
	}
}

func TestP12_2SealWithoutKey(t *testing.T) {
	x := term.New()
	secret := x.Secret()
	// Full: ErrKey is named ahead of ErrFull.
	filled(x, 0)
	for _, level := range levels {
		g := guard.New(x)
		refuses(t, g, head(level, 2), 7, secret, 4, api.ErrKey)
		installs(t, g, level, secret, 0, api.OK)
		refuses(t, g, head(level, 2), 7, secret, 4, api.ErrKey)
		for _, other := range levels {
			if other != level {
				installs(t, g, other, secret, secret, api.OK)
			}
		}
		refuses(t, g, head(level, 2), 7, secret, 4, api.ErrKey)
		installs(t, g, level, 0, secret, api.OK)
		refuses(t, g, head(level, 2), 7, secret, 4, api.ErrFull)
	}
}

func TestP12_2SealWithoutRoom(t *testing.T) {
	for _, level := range levels {
		worked := false
		for room := range 12 {
			x := term.New()
			a, b, secret := guard.New(x), guard.New(x), x.Secret()
			installs(t, a, level, secret, secret, api.OK)
			installs(t, b, level, secret, secret, api.OK)
			filled(x, room)
			got, e := a.Seal(head(level, 2), 7, secret, 4)
			if e != api.OK {
				// Once there is room enough, there is with more, too.
				if e != api.ErrFull || len(got) != 0 || worked || room > 8 {
					t.Errorf("P12.2: room %d: %x, %d", room, got, e)
				}
				continue
			}
			worked = true
			filled(x, 0)
			// What is there already needs no room, for sealing and for opening.
			again, e := a.Seal(head(level, 2), 7, secret, 4)
			if !bytes.Equal(again, got) || e != api.OK || room == 0 {
				t.Errorf("P12.2: again, with room %d: %x, %d", room, again, e)
			}
			if o, e := b.Open(packetOf(t, got)); o != (guard.Opened{Level: level, Number: 7, Content: secret, Size: 4}) || e != api.OK {
				t.Errorf("P12.2: in a full table: %+v, %d", o, e)
			}
			refuses(t, a, head(level, 2), 8, secret, 4, api.ErrFull)
			refuses(t, a, head(level, 2), 8, 0, 4, api.ErrArg)
		}
		if !worked {
			t.Errorf("P12.2: nothing is sealed at the level %d", level)
		}
	}
}

func TestP12_2OpenOfEachLevel(t *testing.T) {
	x, a, b := pair(t)
	for _, level := range levels {
		for i, n := range []int{0, 1, 4, 1199, 1200} {
			got, e := a.Seal(head(level, 1+i%4), i, contentOf(x, i), n)
			if e != api.OK {
				t.Fatalf("P12.2: %d", e)
			}
			p := packetOf(t, got)
			// He who sealed it reads with another secret.
			shuts(t, a, p, api.ErrSeal)
			if o, e := b.Open(p); o != (guard.Opened{Level: level, Number: i, Content: contentOf(x, i), Size: n}) || e != api.OK {
				t.Errorf("P12.2: level %d, %d bytes: %+v, %d", level, n, o, e)
			}
			shuts(t, b, p, api.ErrTwice)
		}
	}
}

// spoilt is a packet whose body has no form.
func spoilt(p header.Packet) header.Packet {
	p.Body = append(slices.Clone(p.Body), 1)
	return p
}

func TestP12_2OpensErrorsInOrder(t *testing.T) {
	for _, level := range levels {
		x, a, b := pair(t)
		p, foreign := sealed(t, x, a, level, 7), sealed(t, x, b, level, 7)
		fresh := sealed(t, x, b, level, 8)
		bare := guard.New(x)
		for _, q := range []header.Packet{p, spoilt(p), foreign, spoilt(foreign)} {
			shuts(t, bare, q, api.ErrKey)
		}
		// A secret to write with is none to read with.
		installs(t, bare, level, 0, 1, api.OK)
		shuts(t, bare, p, api.ErrKey)
		opens(t, x, b, p, 7)
		shuts(t, b, spoilt(p), api.ErrForm)
		shuts(t, b, spoilt(foreign), api.ErrForm)
		shuts(t, b, p, api.ErrTwice)
		shuts(t, b, foreign, api.ErrTwice)
		shuts(t, b, fresh, api.ErrSeal)
		shuts(t, b, spoilt(fresh), api.ErrForm)
		drops(t, b, level, api.OK)
		for _, q := range []header.Packet{p, spoilt(p), foreign, fresh} {
			shuts(t, b, q, api.ErrKey)
		}
	}
}

func TestP12_2OpenOfNoForm(t *testing.T) {
	x, a, b := pair(t)
	for _, level := range levels {
		p := sealed(t, x, a, level, 7)
		for size := range sealedFor {
			q := p
			q.Body = p.Body[:size]
			shuts(t, b, q, api.ErrForm)
		}
		for _, body := range []string{
			"", "\x00\x00\x00\x00" + strings.Repeat("\x00", 12), "\x00\x01\x00\x01" + strings.Repeat("\x00", 12),
			"\xff\xff\xff\xff" + strings.Repeat("\x00", 12), "\x00\x00\x00\x01" + strings.Repeat("\x00", 11) + "\x01",
			"\x00\x00\x00\x01" + strings.Repeat("\x00", 1213), "\x00\x00\x00\x01" + strings.Repeat("\x00", 1<<14),
		} {
			q := p
			q.Body = []byte(body)
			shuts(t, b, q, api.ErrForm)
		}
		// A term's number has form, whichever the term is, and also where there is none.
		for _, h := range []api.Term{1, 2, contentOf(x, 7), api.Term(x.Size() + 1), api.MaxTerms} {
			q := p
			q.Body = ideal.Wrap(h, 4)
			shuts(t, b, q, api.ErrSeal)
		}
		opens(t, x, b, p, 7)
	}
}

func TestP12_2OpenOfNoLevelAndNoNumber(t *testing.T) {
	x, a, b := pair(t)
	for _, kind := range noLevels {
		p := sealed(t, x, a, api.Initial, 7)
		p.Header.Kind = kind
		shuts(t, b, p, api.ErrKey)
	}
	shuts(t, guard.New(nil), header.Packet{}, api.ErrKey)
	shuts(t, b, header.Packet{}, api.ErrForm)
	for _, level := range levels {
		p := sealed(t, x, a, level, 7)
		for _, width := range []int{math.MinInt, -1, 0, 5, math.MaxInt} {
			q := p
			q.Header.Width = width
			// No number is told, and none is not fresh.
			shuts(t, b, q, api.ErrTwice)
		}
		for _, number := range []int{math.MinInt, -1, 65536, math.MaxInt} {
			q := p
			q.Header.Number = number
			shuts(t, b, q, api.ErrTwice)
		}
		opens(t, x, b, p, 7)
	}
}

// otherwise are bytes, each with one byte that is another one.
func otherwise(b []byte) (l [][]byte) {
	for i := range b {
		for _, by := range []byte{1, 2, 4, 8, 16, 32, 64, 128, 255} {
			c := slices.Clone(b)
			c[i] ^= by
			l = append(l, c)
		}
	}
	return l
}

func TestP12_2OneByteIsAltered(t *testing.T) {
	for _, level := range levels {
		for width := 1; width <= 4; width++ {
			x, a, b := pair(t)
			// Numbers about that of the packet are sealed, too, so that other terms are there.
			for full := 6; full <= 9; full++ {
				sealed(t, x, a, level, full)
			}
			got, _ := a.Seal(head(level, width), 7, contentOf(x, 7), 4)
			tried := 0
			for _, c := range otherwise(got) {
				l, _ := header.Split(c)
				for _, p := range l {
					tried++
					if o, e := b.Open(p); e == api.OK || o != (guard.Opened{}) {
						t.Errorf("P12.2: %x opens as %x: %+v, %d", got, c, o, e)
					}
				}
			}
			if tried < 9*len(got)/2 {
				t.Errorf("P12.2: only %d were tried", tried)
			}
			// What did not open left no trace.
			phases(t, b, 0, 0)
			opens(t, x, b, packetOf(t, got), 7)
		}
	}
}

func TestP12_2HeadAndNumberAreBound(t *testing.T) {
	for _, level := range levels {
		x, a, b := pair(t)
		p, q := sealed(t, x, a, level, 7), sealed(t, x, a, level, 8)
		// Heads and bodies change places.
		crossed := p
		crossed.Body = q.Body
		shuts(t, b, crossed, api.ErrSeal)
		crossed = p
		crossed.Head = q.Head
		shuts(t, b, crossed, api.ErrSeal)
		crossed = p
		crossed.Header = q.Header
		shuts(t, b, crossed, api.ErrSeal)
		crossed = p
		crossed.Head = nil
		shuts(t, b, crossed, api.ErrSeal)
		opens(t, x, b, q, 8)
		opens(t, x, b, p, 7)
	}
}

func TestP12_2SecretsOfOtherLevels(t *testing.T) {
	x, a, b := pair(t)
	// The same head may not be of two levels: so guards have the same secret at other levels.
	for _, level := range levels {
		for _, other := range levels {
			g, secret := guard.New(x), x.Secret()
			installs(t, g, other, secret, 0, api.OK)
			want := api.ErrKey
			if other == level {
				want = api.OK
			}
			p := packetOf(t, by(x, secret, head(level, 2), 7, contentOf(x, 7), 4))
			if _, e := g.Open(p); e != want {
				t.Errorf("P12.2: level %d, with the secret at %d: %d", level, other, e)
			}
		}
		// Numbers of levels are their own.
		opens(t, x, b, sealed(t, x, a, level, 3), 3)
		opens(t, x, b, sealed(t, x, a, level, 2), 2)
	}
}

func TestP12_2NumbersThatWidthsDoNotTell(t *testing.T) {
	for _, level := range levels {
		x, a, b := pair(t)
		short := func(full, width int) header.Packet {
			got, e := a.Seal(head(level, width), full, contentOf(x, full), 4)
			if e != api.OK {
				t.Fatalf("P12.2: %d", e)
			}
			return packetOf(t, got)
		}
		// One byte does not tell 300 to who has nothing yet; two do.
		shuts(t, b, short(300, 1), api.ErrSeal)
		opens(t, x, b, short(300, 2), 300)
		opens(t, x, b, short(301, 1), 301)
		opens(t, x, b, short(290, 1), 290)
		// 128 above what is expected one byte tells yet (of two as near it is the one above); one more it does not.
		opens(t, x, b, short(302+128, 1), 302+128)
		shuts(t, b, short(431+250, 1), api.ErrSeal)
		// What is told too low may be too late for the window, or have come.
		shuts(t, b, short(431+129, 1), api.ErrTwice)
		opens(t, x, b, short(431+129, 2), 431+129)
		shuts(t, b, short(560+256, 1), api.ErrTwice)
		opens(t, x, b, short(560+32768, 2), 560+32768)
		opens(t, x, b, short(560+32768+1<<31, 4), 560+32768+1<<31)
		shuts(t, b, short(top, 4), api.ErrSeal)
	}
}

func TestP12_2TooLateForTheWindow(t *testing.T) {
	for _, level := range levels {
		x, a, b := pair(t)
		opens(t, x, b, sealed(t, x, a, level, 100), 100)
		opens(t, x, b, sealed(t, x, a, level, 37), 37)
		shuts(t, b, sealed(t, x, a, level, 37), api.ErrTwice)
		shuts(t, b, sealed(t, x, a, level, 36), api.ErrTwice)
		opens(t, x, b, sealed(t, x, a, level, 38), 38)
		opens(t, x, b, sealed(t, x, a, level, 101), 101)
		shuts(t, b, sealed(t, x, a, level, 37), api.ErrTwice)
		shuts(t, b, sealed(t, x, a, level, 100), api.ErrTwice)
		opens(t, x, b, sealed(t, x, a, level, 99), 99)
	}
}

func TestP12_2WhatDoesNotOpenMarksNothing(t *testing.T) {
	for _, level := range levels {
		x, a, b := pair(t)
		// From oneself, of numbers that are far above: nothing moves.
		for _, full := range []int{5, 500, 30000} {
			shuts(t, b, sealed(t, x, b, level, full), api.ErrSeal)
		}
		opens(t, x, b, sealed(t, x, a, level, 5), 5)
		opens(t, x, b, sealed(t, x, a, level, 0), 0)
	}
}
