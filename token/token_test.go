package token_test

import (
	"bytes"
	"math/big"
	"slices"
	"strings"
	"testing"

	"shibboleth/api"
	"shibboleth/term"
	"shibboleth/token"
)

// The kinds of terms, by their numbers in the document's table.
const (
	text    = 1
	row     = 3
	hash    = 4
	mac     = 5
	derived = 6
	public  = 7
	shared  = 8
	signed  = 9
	sealed  = 10
)

const greatest = 1<<62 - 1 // of the numbers of layer 1

// strange are numbers that no term of a table of size terms has.
func strange(size int) []api.Term {
	return []api.Term{-1 << 63, -1 << 32, -1, 0, api.Term(size + 1), 1 << 16, 1<<16 + 1, 1 << 32, 1<<32 + 1, 1<<63 - 1}
}

// name is a name of n bytes.
func name(n int) []byte {
	return []byte(strings.Repeat("n", n))
}

// list is a list of terms.
func list(l ...api.Term) []api.Term {
	return l
}

// seal is a content, sealed with a key and a head, by layer 2 alone.
func seal(x *term.Table, key api.Term, head string, content api.Term) api.Term {
	return x.Make(sealed, list(key, x.Text([]byte(head)), content))
}

// saying is what says a text, whatever it is, as a token does.
func saying(x *term.Table, key api.Term, b string) api.Term {
	return seal(x, key, "token", x.Text([]byte(b)))
}

// same: are two alike, be an empty name nil or not?
func same(a, b token.Token) bool {
	return a.Later == b.Later && a.Address == b.Address && a.Time == b.Time && bytes.Equal(a.Name, b.Name)
}

// looks holds what Look tells, and that it makes nothing.
func looks(t *testing.T, x *term.Table, key, h api.Term, what string, want token.Token, e api.Errno) {
	t.Helper()
	size := x.Size()
	got, gotE := token.Look(x, key, h)
	if gotE != e || !same(got, want) || x.Size() != size {
		t.Errorf("P16.1: Look of %s: %+v, %d, with %d more terms, not %+v, %d", what, got, gotE, x.Size()-size, want, e)
	}
}

// none holds that Look and Check refuse a term with a key.
func none(t *testing.T, x *term.Table, key, h api.Term, what string) {
	t.Helper()
	looks(t, x, key, h, what, token.Token{}, api.ErrToken)
	for _, now := range []int{-1 << 63, -1, 0, 10, 1<<63 - 1} {
		if got, e := token.Check(x, key, h, 5, now, greatest); e != api.ErrToken || !same(got, token.Token{}) {
			t.Errorf("P16.1: Check of %s at %d: %+v, %d", what, now, got, e)
		}
	}
}

// tokens are right ones, with the bytes of their texts.
var tokens = []struct {
	x    token.Token
	text string
}{
	{token.Token{}, "\x00\x00\x00\x00"},
	{token.Token{Later: true}, "\x01\x00\x00\x00"},
	{token.Token{Address: 5, Time: 10, Name: []byte("goal")}, "\x00\x05\x0a\x04goal"},
	{token.Token{Later: true, Address: 5, Time: 10, Name: []byte("goal")}, "\x01\x05\x0a\x04goal"},
	{token.Token{Address: 10, Time: 5, Name: []byte{}}, "\x00\x0a\x05\x00"},
	{token.Token{Address: 63, Time: 64, Name: []byte{0}}, "\x00\x3f\x40\x40\x01\x00"},
	{token.Token{Address: 64, Time: 63, Name: []byte{0, 0}}, "\x00\x40\x40\x3f\x02\x00\x00"},
	{token.Token{Later: true, Address: 1<<14 - 1, Time: 1 << 14}, "\x01\x7f\xff\x80\x00\x40\x00\x00"},
	{token.Token{Address: 1<<30 - 1, Time: 1 << 30}, "\x00\xbf\xff\xff\xff\xc0\x00\x00\x00\x40\x00\x00\x00\x00"},
	{token.Token{Address: greatest}, "\x00\xff\xff\xff\xff\xff\xff\xff\xff\x00\x00"},
	{token.Token{Time: greatest}, "\x00\x00\xff\xff\xff\xff\xff\xff\xff\xff\x00"},
	{token.Token{Address: 1 << 40, Time: 1 << 40, Name: name(19)}, "\x00\xc0\x00\x01\x00\x00\x00\x00\x00\xc0\x00\x01\x00\x00\x00\x00\x00\x13" + string(name(19))},
	{token.Token{Name: name(20)}, "\x00\x00\x00\x14" + string(name(20))},
	{token.Token{Later: true, Address: greatest, Time: greatest, Name: name(20)}, "\x01" + strings.Repeat("\xff", 16) + "\x14" + string(name(20))},
	{token.Token{Name: []byte("\xff\x80\x00\n")}, "\x00\x00\x00\x04\xff\x80\x00\n"},
}

func TestP16_1TokensAreMadeOf(t *testing.T) {
	x := term.New()
	key := x.Secret()
	for _, c := range tokens {
		h := token.Mint(x, key, c.x)
		n, is := x.Look(h)
		if !is || n.Kind != sealed || len(n.Parts) != 3 || n.Parts[0] != key {
			t.Fatalf("P16.1: %+v: %d, %v, %t", c.x, h, n, is)
		}
		head, _ := x.Look(n.Parts[1])
		said, _ := x.Look(n.Parts[2])
		if head.Kind != text || head.Text != "token" || said.Kind != text || said.Text != c.text {
			t.Errorf("P16.1: %+v: %q, %x, not %x", c.x, head.Text, said.Text, c.text)
		}
		size := x.Size()
		if again := token.Mint(x, key, c.x); again != h || x.Size() != size || saying(x, key, c.text) != h {
			t.Errorf("P16.1: %+v once more: %d, not %d", c.x, again, h)
		}
	}
}

func TestP16_1TokensAreLookedAt(t *testing.T) {
	x := term.New()
	key := x.Secret()
	for _, c := range tokens {
		looks(t, x, key, saying(x, key, c.text), "a right one", c.x, api.OK)
		looks(t, x, key, token.Mint(x, key, c.x), "one that was minted", c.x, api.OK)
	}
}

// What is a key is any term.
func TestP16_1KeysOfAllKinds(t *testing.T) {
	x := term.New()
	a, b := x.Secret(), x.Secret()
	p := x.Make(public, list(b))
	own := token.Token{Address: 5, Time: 10}
	for kind, key := range []api.Term{
		a, x.Text(nil), x.Text([]byte("token")), x.Make(row, nil), x.Make(hash, list(a)), x.Make(mac, list(a, b)),
		x.Make(derived, list(a, x.Text(nil), a)), p, x.Make(shared, list(a, p)), x.Make(signed, list(a, b)), token.Mint(x, a, own),
	} {
		h := token.Mint(x, key, own)
		if h == 0 {
			t.Errorf("P16.1: the key %d: nothing", kind)
		}
		looks(t, x, key, h, "any key", own, api.OK)
	}
}

func TestP16_1MintOfWrongFields(t *testing.T) {
	x := term.New()
	key := x.Secret()
	for _, n := range []int{-1 << 63, -1 << 62, -64, -1, 1 << 62, 1<<62 + 1, 1<<63 - 1} {
		for _, c := range []token.Token{{Address: n}, {Time: n}, {Address: n, Time: n}, {Later: true, Address: 5, Time: n, Name: name(3)}} {
			if h := token.Mint(x, key, c); h != 0 {
				t.Errorf("P16.1: %+v: %d", c, h)
			}
		}
	}
	for _, n := range []int{21, 22, 63, 64, 256, 257, 276, 2030, api.MaxText, 1 << 16} {
		for _, later := range []bool{false, true} {
			if h := token.Mint(x, key, token.Token{Later: later, Address: 5, Time: 10, Name: name(n)}); h != 0 {
				t.Errorf("P16.1: a name of %d bytes: %d", n, h)
			}
		}
	}
}

func TestP16_1MintWithNoKey(t *testing.T) {
	x := term.New()
	x.Secret()
	own := token.Token{Address: 5, Time: 10}
	token.Mint(x, 1, own) // so that the size stays as it is
	for _, key := range strange(x.Size()) {
		if h := token.Mint(x, key, own); h != 0 {
			t.Errorf("P16.1: the key %d: %d", key, h)
		}
	}
	for key := api.Term(-1); key < 3; key++ {
		if h := token.Mint(nil, key, own); h != 0 {
			t.Errorf("P16.1: no table, the key %d: %d", key, h)
		}
	}
}

// nearlyFull is a table that has room for so many terms; its first one is a secret, its second one the head's text.
func nearlyFull(room int) *term.Table {
	x := term.New()
	x.Secret()
	x.Text([]byte("token"))
	for x.Size() < api.MaxTerms-room {
		x.Secret()
	}
	return x
}

func TestP16_1NearlyFullTables(t *testing.T) {
	own := token.Token{Later: true, Address: 5, Time: 10, Name: name(20)}
	for room := range 2 {
		x := nearlyFull(room)
		for range 2 {
			if h := token.Mint(x, 1, own); h != 0 {
				t.Errorf("P16.1: room for %d: %d", room, h)
			}
		}
	}
	x := nearlyFull(2)
	h := token.Mint(x, 1, own)
	if h == 0 || x.Size() != api.MaxTerms {
		t.Fatalf("P16.1: just enough room: %d, of %d terms", h, x.Size())
	}
	looks(t, x, 1, h, "one of a full table", own, api.OK)
	if again := token.Mint(x, 1, own); again != h {
		t.Errorf("P16.1: the same, in a full table: %d, not %d", again, h)
	}
	if other := token.Mint(x, 1, token.Token{}); other != 0 {
		t.Errorf("P16.1: another one, in a full table: %d", other)
	}
	none(t, x, 1, api.MaxTerms+1, "a number behind a full table")
}

func TestP16_1LookWithAnotherKey(t *testing.T) {
	x := term.New()
	key, other := x.Secret(), x.Secret()
	own := token.Token{Address: 5, Time: 10}
	h := token.Mint(x, key, own)
	size := api.Term(x.Size())
	for k := api.Term(1); k <= size; k++ {
		if k != key {
			none(t, x, k, h, "one with another key")
		}
	}
	for _, k := range strange(int(size)) {
		none(t, x, k, h, "one with no key")
		none(t, x, key, k, "no term")
		none(t, x, k, k, "nothing with no key")
		none(t, nil, key, h, "one of no table")
		none(t, nil, k, k, "nothing of no table")
	}
	looks(t, x, other, token.Mint(x, other, own), "the other key's own", own, api.OK)
}

func TestP16_1SealedUnderAnotherHead(t *testing.T) {
	x := term.New()
	key := x.Secret()
	said := x.Text([]byte("\x00\x05\x0a\x04goal"))
	for _, head := range []string{"", "t", "toke", "tokens", "token ", " token", "token\x00", "Token", "TOKEN", "ticket", "oken", "\x00\x05\x0a\x04goal"} {
		none(t, x, key, seal(x, key, head, said), "the head "+head)
	}
	looks(t, x, key, seal(x, key, "token", said), "the head itself", token.Token{Address: 5, Time: 10, Name: []byte("goal")}, api.OK)
}

func TestP16_1WrongThings(t *testing.T) {
	x := term.New()
	key, b := x.Secret(), x.Secret()
	p := x.Make(public, list(b))
	head, said := x.Text([]byte("token")), x.Text([]byte("\x00\x05\x0a\x04goal"))
	right := seal(x, key, "token", said)
	for what, h := range map[string]api.Term{
		"a secret":        b,
		"a row of it":     x.Make(row, list(said)),
		"a row of none":   x.Make(row, nil),
		"a row of two":    x.Make(row, list(said, said)),
		"its hash":        x.Make(hash, list(said)),
		"a mac of it":     x.Make(mac, list(key, said)),
		"one derived":     x.Make(derived, list(key, said, said)),
		"a public one":    p,
		"a shared one":    x.Make(shared, list(key, p)),
		"a signed one":    x.Make(signed, list(key, said)),
		"a token":         right,
		"the key":         key,
		"the empty text":  x.Text(nil),
		"the head's text": head,
	} {
		none(t, x, key, seal(x, key, "token", h), what+", sealed")
		if h != right {
			none(t, x, key, h, what+" itself")
		}
	}
	none(t, x, key, said, "the text itself")
	none(t, x, key, x.Make(row, list(key, head, said)), "a row as the sealed one")
	none(t, x, key, x.Make(derived, list(key, head, said)), "a derived one as the sealed one")
	none(t, x, key, x.Make(mac, list(key, said)), "a mac by the key")
	none(t, x, key, x.Make(sealed, list(said, head, key)), "the wrong way round")
	looks(t, x, key, right, "the right one", token.Token{Address: 5, Time: 10, Name: []byte("goal")}, api.OK)
}

func TestP16_1CutAndLongerTexts(t *testing.T) {
	for _, c := range tokens {
		x := term.New()
		key := x.Secret()
		for i := range len(c.text) {
			none(t, x, key, saying(x, key, c.text[:i]), "a text that is cut short")
		}
		for i := range 256 {
			none(t, x, key, saying(x, key, c.text+string([]byte{byte(i)})), "a text with a byte too many")
		}
		none(t, x, key, saying(x, key, c.text+c.text), "two texts")
		none(t, x, key, saying(x, key, c.text[1:]), "a text without its first byte")
	}
}

func TestP16_1FirstBytes(t *testing.T) {
	x := term.New()
	key := x.Secret()
	want := token.Token{Address: 1, Time: 2, Name: []byte("ab")}
	for i := range 256 {
		h := saying(x, key, string([]byte{byte(i)})+"\x01\x02\x02ab")
		if i > 1 {
			none(t, x, key, h, "a first byte that is none")
			continue
		}
		want.Later = i == 1
		looks(t, x, key, h, "a first byte", want, api.OK)
	}
	for _, b := range []string{
		"\x40\x00\x01\x02\x02ab", "\x40\x01\x01\x02\x02ab", "\x80\x00\x00\x01\x01\x02\x02ab", "\xc0\x00\x00\x00\x00\x00\x00\x01\x01\x02\x02ab",
	} {
		none(t, x, key, saying(x, key, b), "more than a byte ahead")
	}
}

func TestP16_1WrongFieldsInAText(t *testing.T) {
	x := term.New()
	key := x.Secret()
	for what, b := range map[string]string{
		"an address longer than needed":      "\x00\x40\x05\x0a\x00",
		"an address of eight bytes, below":   "\x00\xc0\x00\x00\x00\x3f\xff\xff\xff\x0a\x00",
		"a time longer than needed":          "\x00\x05\x40\x0a\x00",
		"a time of four bytes, below":        "\x00\x05\x80\x00\x3f\xff\x00",
		"a name's length longer than needed": "\x00\x05\x0a\x40\x02ab",
		"no name's length":                   "\x00\x05\x0a",
		"a name that is cut":                 "\x00\x05\x0a\x03ab",
		"a name that goes on":                "\x00\x05\x0a\x01ab",
		"a name of 21 bytes":                 "\x00\x05\x0a\x15" + string(name(21)),
		"a name of 21 bytes, cut to 20":      "\x00\x05\x0a\x15" + string(name(20)),
		"a name of 20 bytes, and one more":   "\x00\x05\x0a\x14" + string(name(21)),
		"a name of 63 bytes":                 "\x00\x05\x0a\x3f" + string(name(63)),
		"a name of 64 bytes":                 "\x00\x05\x0a\x40\x40" + string(name(64)),
		"a name of very many bytes":          "\x00\x05\x0a" + strings.Repeat("\xff", 8) + "ab",
		"a longest text":                     "\x00\x05\x0a" + string(name(api.MaxText-3)),
		"a longest text with its length":     "\x00\x05\x0a\x47\xfb" + string(name(api.MaxText-5)),
		"a longest text of zeros":            strings.Repeat("\x00", api.MaxText),
	} {
		none(t, x, key, saying(x, key, b), what)
	}
}

// number tells the number with which b begins, and what is behind it, as the chapter 1 says.
func number(b []byte) (n int, rest []byte, is bool) {
	if len(b) == 0 {
		return 0, nil, false
	}
	kind := int(b[0] >> 6)
	size := []int{1, 2, 4, 8}[kind]
	if len(b) < size {
		return 0, nil, false
	}
	n = int(b[0] % 64)
	for _, x := range b[1:size] {
		n = n*256 + int(x)
	}
	return n, b[size:], n >= []int{0, 1 << 6, 1 << 14, 1 << 30}[kind]
}

// model tells what a text says, as the chapter 16 says.
func model(b []byte) (token.Token, api.Errno) {
	if len(b) == 0 || b[0] > 1 {
		return token.Token{}, api.ErrToken
	}
	address, rest, is := number(b[1:])
	if !is {
		return token.Token{}, api.ErrToken
	}
	time, rest, is := number(rest)
	if !is {
		return token.Token{}, api.ErrToken
	}
	length, rest, is := number(rest)
	if !is || length > 20 || length != len(rest) {
		return token.Token{}, api.ErrToken
	}
	return token.Token{Later: b[0] == 1, Address: address, Time: time, Name: rest}, api.OK
}

// texts are all of so many bytes out of some.
func texts(size int, yield func(b []byte)) {
	some := []byte{0, 1, 2, 20, 21, 63, 0x40, 0x41, 0x80, 0xc0}
	b := make([]byte, size)
	many := 1
	for range size {
		many *= len(some)
	}
	for i := range many {
		for j := range b {
			b[j] = some[i%len(some)]
			i /= len(some)
		}
		yield(b)
	}
}

func TestP16_1ManyTexts(t *testing.T) {
	right := 0
	for size := range 5 {
		for _, ahead := range []string{"", "\x00", "\x01\x05\x40\x40"} {
			x := term.New()
			key := x.Secret()
			texts(size, func(b []byte) {
				b = append([]byte(ahead), b...)
				want, e := model(b)
				looks(t, x, key, saying(x, key, string(b)), "one of many texts", want, e)
				if e == api.OK {
					right++
				}
			})
		}
	}
	if right < 100 {
		t.Errorf("just %d right ones are asked", right)
	}
}

func TestP16_1CheckInItsTime(t *testing.T) {
	x := term.New()
	key := x.Secret()
	for _, later := range []bool{false, true} {
		own := token.Token{Later: later, Address: 5, Time: 10, Name: []byte("goal")}
		h := token.Mint(x, key, own)
		for now, want := range map[int]api.Errno{-1 << 63: api.ErrOld, -1: api.ErrOld, 0: api.ErrOld, 9: api.ErrOld, 10: api.OK, 11: api.OK, 13: api.OK, 14: api.ErrOld, 15: api.ErrOld, 1<<63 - 1: api.ErrOld} {
			got, e := token.Check(x, key, h, 5, now, 3)
			if e != want || e == api.OK && !same(got, own) || e != api.OK && !same(got, token.Token{}) {
				t.Errorf("P16.1: at %d: %+v, %d, not %d", now, got, e, want)
			}
		}
	}
}

// tooOld: is now below a time, or above it by more than life?
func tooOld(time, now, life int) bool {
	above := new(big.Int).Sub(big.NewInt(int64(now)), big.NewInt(int64(time)))
	return above.Sign() < 0 || above.Cmp(big.NewInt(int64(life))) > 0
}

func TestP16_1CheckAtAllBorders(t *testing.T) {
	x := term.New()
	key := x.Secret()
	lives := []int{-1 << 63, -1, 0, 1, 2, 1 << 40, greatest - 1, greatest, greatest + 1, 1<<63 - 2, 1<<63 - 1}
	for _, time := range []int{0, 1, 2, 63, 64, 1 << 40, greatest - 1, greatest} {
		own := token.Token{Address: time, Time: time}
		h := token.Mint(x, key, own)
		for _, life := range lives {
			for _, now := range []int{-1 << 63, -1 << 62, -greatest, -1, 0, 1, 2, 3, time - 1, time, time + 1, time + life - 1, time + life, time + life + 1, greatest, greatest + 1, 1<<63 - 1} {
				want := api.OK
				if tooOld(time, now, life) {
					want = api.ErrOld
				}
				got, e := token.Check(x, key, h, time, now, life)
				if e != want || e == api.OK && !same(got, own) || e != api.OK && !same(got, token.Token{}) {
					t.Errorf("P16.1: of %d, at %d, a life of %d: %+v, %d, not %d", time, now, life, got, e, want)
				}
			}
		}
	}
}

func TestP16_1CheckForAnotherAddress(t *testing.T) {
	x := term.New()
	key := x.Secret()
	all := []int{-1 << 63, -1, 0, 4, 5, 6, 5 + 1<<32, greatest, 1 << 62, 1<<63 - 1}
	for _, own := range []int{0, 5, greatest} {
		h := token.Mint(x, key, token.Token{Address: own, Time: 10})
		for _, address := range all {
			// Another address is told ahead of its time.
			for _, now := range []int{-1, 9, 10, 13, 14} {
				want := api.ErrToken
				if address == own {
					want = api.OK
					if now < 10 || now > 13 {
						want = api.ErrOld
					}
				}
				size := x.Size()
				if _, e := token.Check(x, key, h, address, now, 3); e != want || x.Size() != size {
					t.Errorf("P16.1: of %d, for %d at %d: %d, not %d", own, address, now, e, want)
				}
			}
		}
	}
}

func TestR4NamesStay(t *testing.T) {
	x := term.New()
	key := x.Secret()
	all := bytes.Repeat([]byte{0xee}, 64)
	copy(all, "goal")
	own := token.Token{Address: 5, Time: 10, Name: all[:4]}
	h := token.Mint(x, key, own)
	if want := append([]byte("goal"), bytes.Repeat([]byte{0xee}, 60)...); !bytes.Equal(all, want) {
		t.Errorf("R4: Mint wrote into a name: %x", all)
	}
	all[0] = 'x'
	for _, look := range []func() (token.Token, api.Errno){
		func() (token.Token, api.Errno) { return token.Look(x, key, h) },
		func() (token.Token, api.Errno) { return token.Check(x, key, h, 5, 10, 3) },
	} {
		for range 2 {
			got, e := look()
			if e != api.OK || string(got.Name) != "goal" {
				t.Errorf("R4: %q, %d", got.Name, e)
			}
			clear(slices.Grow(got.Name, 8)[:cap(got.Name)])
		}
	}
}
