package ticket_test

import (
	"math/big"
	"strings"
	"testing"

	"shibboleth/api"
	"shibboleth/term"
	"shibboleth/ticket"
)

// The kinds of terms, by their numbers in the document's table.
const (
	text    = 1
	row     = 3
	hash    = 4
	mac     = 5
	derived = 6
	public  = 7
	shared  = 8
	signed  = 9
	sealed  = 10
)

const greatest = 1<<62 - 1 // of the numbers of layer 1

// strange are numbers that no term of a table of size terms has.
func strange(size int) []api.Term {
	return []api.Term{-1 << 63, -1 << 32, -1, 0, api.Term(size + 1), 1 << 16, 1<<16 + 1, 1 << 32, 1<<32 + 1, 1<<63 - 1}
}

// list is a list of terms.
func list(l ...api.Term) []api.Term {
	return l
}

// seal is a content, sealed with a key and a head, by layer 2 alone.
func seal(x *term.Table, key api.Term, head string, content api.Term) api.Term {
	return x.Make(sealed, list(key, x.Text([]byte(head)), content))
}

// saying is what says a text and has a secret, as a ticket does.
func saying(x *term.Table, key api.Term, b string, secret api.Term) api.Term {
	return seal(x, key, "ticket", x.Make(row, list(x.Text([]byte(b)), secret)))
}

// redeems holds what Redeem tells, and that it makes nothing.
func redeems(t *testing.T, x *term.Table, key, h api.Term, now int, what string, want ticket.Ticket, e api.Errno) {
	t.Helper()
	size := x.Size()
	got, gotE := ticket.Redeem(x, key, h, now)
	if gotE != e || got != want || x.Size() != size {
		t.Errorf("P17.1: Redeem of %s at %d: %+v, %d, with %d more terms, not %+v, %d", what, now, got, gotE, x.Size()-size, want, e)
	}
}

// none holds that Redeem refuses a term with a key, at all times.
func none(t *testing.T, x *term.Table, key, h api.Term, what string) {
	t.Helper()
	for _, now := range []int{-1 << 63, -1, 0, 9, 10, 15, 16, greatest, 1<<63 - 1} {
		redeems(t, x, key, h, now, what, ticket.Ticket{}, api.ErrToken)
	}
}

// tickets are right ones, but for their secrets, with the bytes of their texts.
var tickets = []struct {
	x    ticket.Ticket
	text string
}{
	{ticket.Ticket{}, "\x00\x00\x00"},
	{ticket.Ticket{Version: 2, Time: 10, Life: 5}, "\x02\x0a\x05"},
	{ticket.Ticket{Version: 5, Time: 2, Life: 10}, "\x05\x02\x0a"},
	{ticket.Ticket{Version: 1}, "\x01\x00\x00"},
	{ticket.Ticket{Time: 1}, "\x00\x01\x00"},
	{ticket.Ticket{Life: 1}, "\x00\x00\x01"},
	{ticket.Ticket{Version: 63, Time: 64, Life: 1<<14 - 1}, "\x3f\x40\x40\x7f\xff"},
	{ticket.Ticket{Version: 1 << 14, Time: 1<<30 - 1, Life: 1 << 30}, "\x80\x00\x40\x00\xbf\xff\xff\xff\xc0\x00\x00\x00\x40\x00\x00\x00"},
	{ticket.Ticket{Version: 1<<32 - 1, Time: 1 << 40, Life: 64}, "\xc0\x00\x00\x00\xff\xff\xff\xff\xc0\x00\x01\x00\x00\x00\x00\x00\x40\x40"},
	{ticket.Ticket{Version: greatest}, "\xff\xff\xff\xff\xff\xff\xff\xff\x00\x00"},
	{ticket.Ticket{Time: greatest}, "\x00\xff\xff\xff\xff\xff\xff\xff\xff\x00"},
	{ticket.Ticket{Life: greatest}, "\x00\x00\xff\xff\xff\xff\xff\xff\xff\xff"},
	{ticket.Ticket{Version: greatest, Time: greatest, Life: greatest}, strings.Repeat("\xff", 24)},
}

func TestP17_1TicketsAreMadeOf(t *testing.T) {
	x := term.New()
	key, secret := x.Secret(), x.Secret()
	for _, c := range tickets {
		c.x.Secret = secret
		h := ticket.Issue(x, key, c.x)
		n, is := x.Look(h)
		if !is || n.Kind != sealed || len(n.Parts) != 3 || n.Parts[0] != key {
			t.Fatalf("P17.1: %+v: %d, %v, %t", c.x, h, n, is)
		}
		head, _ := x.Look(n.Parts[1])
		both, _ := x.Look(n.Parts[2])
		if head.Kind != text || head.Text != "ticket" || both.Kind != row || len(both.Parts) != 2 || both.Parts[1] != secret {
			t.Fatalf("P17.1: %+v: %v, %v", c.x, head, both)
		}
		said, _ := x.Look(both.Parts[0])
		if said.Kind != text || said.Text != c.text {
			t.Errorf("P17.1: %+v: %x, not %x", c.x, said.Text, c.text)
		}
		size := x.Size()
		if again := ticket.Issue(x, key, c.x); again != h || x.Size() != size || saying(x, key, c.text, secret) != h {
			t.Errorf("P17.1: %+v once more: %d, not %d", c.x, again, h)
		}
	}
}

func TestP17_1TicketsAreRedeemed(t *testing.T) {
	x := term.New()
	key, secret := x.Secret(), x.Secret()
	for _, c := range tickets {
		c.x.Secret = secret
		redeems(t, x, key, saying(x, key, c.text, secret), c.x.Time, "a right one", c.x, api.OK)
		redeems(t, x, key, ticket.Issue(x, key, c.x), c.x.Time, "one that was issued", c.x, api.OK)
	}
}

// each is one term of each kind.
func each(x *term.Table) []api.Term {
	a, b := x.Secret(), x.Secret()
	p := x.Make(public, list(b))
	return list(
		a, x.Text(nil), x.Text([]byte("ticket")), x.Text([]byte("\x02\x0a\x05")), x.Make(row, nil), x.Make(row, list(a, b)),
		x.Make(hash, list(a)), x.Make(mac, list(a, b)), x.Make(derived, list(a, x.Text(nil), a)), p, x.Make(shared, list(a, p)),
		x.Make(signed, list(a, b)), x.Make(sealed, list(a, x.Text(nil), b)), saying(x, a, "\x02\x0a\x05", b),
	)
}

// A key is any term, and so is a secret: the key itself, too, and a ticket.
func TestP17_1KeysAndSecretsOfAllKinds(t *testing.T) {
	x := term.New()
	all := each(x)
	for _, key := range all {
		for _, secret := range all {
			own := ticket.Ticket{Version: 2, Time: 10, Life: 5, Secret: secret}
			h := ticket.Issue(x, key, own)
			if h == 0 {
				t.Errorf("P17.1: the secret %d, with the key %d: nothing", secret, key)
			}
			redeems(t, x, key, h, 10, "any secret, with any key", own, api.OK)
		}
	}
}

func TestP17_1IssueOfWrongNumbers(t *testing.T) {
	x := term.New()
	key, secret := x.Secret(), x.Secret()
	for _, n := range []int{-1 << 63, -1 << 62, -64, -1, 1 << 62, 1<<62 + 1, 1<<63 - 1} {
		for _, c := range []ticket.Ticket{
			{Version: n}, {Time: n}, {Life: n}, {Version: n, Time: n, Life: n},
			{Version: n, Time: 10, Life: 5}, {Version: 2, Time: n, Life: 5}, {Version: 2, Time: 10, Life: n},
		} {
			c.Secret = secret
			if h := ticket.Issue(x, key, c); h != 0 {
				t.Errorf("P17.1: %+v: %d", c, h)
			}
		}
	}
}

func TestP17_1IssueOfNoTerms(t *testing.T) {
	x := term.New()
	key, secret := x.Secret(), x.Secret()
	own := ticket.Ticket{Version: 2, Time: 10, Life: 5, Secret: secret}
	ticket.Issue(x, key, own) // so that the size stays as it is
	for _, h := range strange(x.Size()) {
		if got := ticket.Issue(x, h, own); got != 0 {
			t.Errorf("P17.1: the key %d: %d", h, got)
		}
		lost := own
		lost.Secret = h
		if got := ticket.Issue(x, key, lost); got != 0 {
			t.Errorf("P17.1: the secret %d: %d", h, got)
		}
		if got := ticket.Issue(x, h, lost); got != 0 {
			t.Errorf("P17.1: the key and the secret %d: %d", h, got)
		}
		if got := ticket.Issue(nil, h, lost); got != 0 {
			t.Errorf("P17.1: of no table: %d", got)
		}
	}
	if got := ticket.Issue(nil, key, own); got != 0 {
		t.Errorf("P17.1: of no table: %d", got)
	}
}

// nearlyFull is a table that has room for so many terms; its first two are secrets, its third one the head's text.
func nearlyFull(room int) *term.Table {
	x := term.New()
	x.Secret()
	x.Secret()
	x.Text([]byte("ticket"))
	for x.Size() < api.MaxTerms-room {
		x.Secret()
	}
	return x
}

func TestP17_1NearlyFullTables(t *testing.T) {
	own := ticket.Ticket{Version: 2, Time: 10, Life: 5, Secret: 2}
	for room := range 3 {
		x := nearlyFull(room)
		for range 2 {
			if h := ticket.Issue(x, 1, own); h != 0 {
				t.Errorf("P17.1: room for %d: %d", room, h)
			}
		}
	}
	x := nearlyFull(3)
	h := ticket.Issue(x, 1, own)
	if h == 0 || x.Size() != api.MaxTerms {
		t.Fatalf("P17.1: just enough room: %d, of %d terms", h, x.Size())
	}
	redeems(t, x, 1, h, 15, "one of a full table", own, api.OK)
	if again := ticket.Issue(x, 1, own); again != h {
		t.Errorf("P17.1: the same, in a full table: %d, not %d", again, h)
	}
	if other := ticket.Issue(x, 1, ticket.Ticket{Secret: 2}); other != 0 {
		t.Errorf("P17.1: another one, in a full table: %d", other)
	}
	none(t, x, 1, api.MaxTerms+1, "a number behind a full table")
}

func TestP17_1RedeemWithAnotherKey(t *testing.T) {
	x := term.New()
	key, other, secret := x.Secret(), x.Secret(), x.Secret()
	own := ticket.Ticket{Version: 2, Time: 10, Life: 5, Secret: secret}
	h := ticket.Issue(x, key, own)
	size := api.Term(x.Size())
	for k := api.Term(1); k <= size; k++ {
		if k != key {
			none(t, x, k, h, "one with another key")
		}
	}
	for _, k := range strange(int(size)) {
		none(t, x, k, h, "one with no key")
		none(t, x, key, k, "no term")
		none(t, x, k, k, "nothing with no key")
		none(t, nil, key, h, "one of no table")
		none(t, nil, k, k, "nothing of no table")
	}
	redeems(t, x, other, ticket.Issue(x, other, own), 10, "the other key's own", own, api.OK)
}

func TestP17_1SealedUnderAnotherHead(t *testing.T) {
	x := term.New()
	key, secret := x.Secret(), x.Secret()
	content := x.Make(row, list(x.Text([]byte("\x02\x0a\x05")), secret))
	for _, head := range []string{"", "t", "ticke", "tickets", "ticket ", " ticket", "ticket\x00", "Ticket", "TICKET", "token", "icket", "\x02\x0a\x05"} {
		none(t, x, key, seal(x, key, head, content), "the head "+head)
	}
	redeems(t, x, key, seal(x, key, "ticket", content), 10, "the head itself", ticket.Ticket{Version: 2, Time: 10, Life: 5, Secret: secret}, api.OK)
}

func TestP17_1WrongThings(t *testing.T) {
	x := term.New()
	key, s := x.Secret(), x.Secret()
	p := x.Make(public, list(s))
	head, said := x.Text([]byte("ticket")), x.Text([]byte("\x02\x0a\x05"))
	content := x.Make(row, list(said, s))
	right := seal(x, key, "ticket", content)
	for what, h := range map[string]api.Term{
		"a secret":        s,
		"the text":        said,
		"the empty text":  x.Text(nil),
		"a row of none":   x.Make(row, nil),
		"a row of one":    x.Make(row, list(said)),
		"a row of three":  x.Make(row, list(said, s, s)),
		"a row of 16":     x.Make(row, list(said, s, s, s, s, s, s, s, s, s, s, s, s, s, s, s)),
		"a row in a row":  x.Make(row, list(content)),
		"a row of a row":  x.Make(row, list(content, s)),
		"a row of no one": x.Make(row, list(s, s)),
		"a turned row":    x.Make(row, list(s, said)),
		"a hash":          x.Make(hash, list(content)),
		"a row's mac":     x.Make(mac, list(key, content)),
		"a mac of two":    x.Make(mac, list(said, s)),
		"a derived one":   x.Make(derived, list(said, said, s)),
		"a public one":    p,
		"a shared one":    x.Make(shared, list(key, p)),
		"a signed one":    x.Make(signed, list(key, content)),
		"signed by two":   x.Make(signed, list(s, said)),
		"a ticket":        right,
	} {
		none(t, x, key, seal(x, key, "ticket", h), what+", sealed")
		if h != right {
			none(t, x, key, h, what+" itself")
		}
	}
	none(t, x, key, content, "the row itself")
	none(t, x, key, key, "the key")
	none(t, x, key, x.Make(row, list(key, head, content)), "a row as the sealed one")
	none(t, x, key, x.Make(derived, list(key, head, content)), "a derived one as the sealed one")
	none(t, x, key, x.Make(mac, list(key, content)), "a mac by the key")
	none(t, x, key, x.Make(sealed, list(content, head, key)), "the wrong way round")
	redeems(t, x, key, right, 15, "the right one", ticket.Ticket{Version: 2, Time: 10, Life: 5, Secret: s}, api.OK)
}

// A row's first one has to be a text, whatever kind it is else.
func TestP17_1RowsOfNoText(t *testing.T) {
	x := term.New()
	key := x.Secret()
	for _, first := range each(x) {
		if n, _ := x.Look(first); n.Kind == text {
			continue
		}
		for _, second := range each(x) {
			none(t, x, key, seal(x, key, "ticket", x.Make(row, list(first, second))), "a row of no text")
		}
	}
	both := x.Text([]byte("\x02\x0a\x05"))
	redeems(t, x, key, seal(x, key, "ticket", x.Make(row, list(both, both))), 10, "a text as the secret", ticket.Ticket{Version: 2, Time: 10, Life: 5, Secret: both}, api.OK)
}

func TestP17_1CutAndLongerTexts(t *testing.T) {
	for _, c := range tickets {
		x := term.New()
		key, s := x.Secret(), x.Secret()
		for i := range len(c.text) {
			none(t, x, key, saying(x, key, c.text[:i], s), "a text that is cut short")
		}
		for i := range 256 {
			none(t, x, key, saying(x, key, c.text+string([]byte{byte(i)}), s), "a text with a byte too many")
		}
		none(t, x, key, saying(x, key, c.text+c.text, s), "two texts")
	}
}

func TestP17_1WrongNumbersInAText(t *testing.T) {
	x := term.New()
	key, s := x.Secret(), x.Secret()
	for what, b := range map[string]string{
		"a version longer than needed":     "\x40\x02\x0a\x05",
		"a time longer than needed":        "\x02\x40\x0a\x05",
		"a lifetime longer than needed":    "\x02\x0a\x40\x05",
		"a version of four bytes, below":   "\x80\x00\x3f\xff\x0a\x05",
		"a time of eight bytes, below":     "\x02\xc0\x00\x00\x00\x3f\xff\xff\xff\x05",
		"a lifetime of eight bytes, below": "\x02\x0a\xc0\x00\x00\x00\x00\x00\x00\x05",
		"four numbers":                     "\x02\x0a\x05\x05",
		"two numbers":                      "\x02\x0a",
		"a longest text":                   strings.Repeat("\x00", api.MaxText),
	} {
		none(t, x, key, saying(x, key, b, s), what)
	}
}

// number tells the number with which b begins, and what is behind it, as the chapter 1 says.
func number(b []byte) (n int, rest []byte, is bool) {
	if len(b) == 0 {
		return 0, nil, false
	}
	kind := int(b[0] >> 6)
	size := []int{1, 2, 4, 8}[kind]
	if len(b) < size {
		return 0, nil, false
	}
	n = int(b[0] % 64)
	for _, x := range b[1:size] {
		n = n*256 + int(x)
	}
	return n, b[size:], n >= []int{0, 1 << 6, 1 << 14, 1 << 30}[kind]
}

// model tells what a text says, as the chapter 17 says.
func model(b []byte) (x ticket.Ticket, is bool) {
	version, rest, is := number(b)
	if !is {
		return ticket.Ticket{}, false
	}
	time, rest, is := number(rest)
	if !is {
		return ticket.Ticket{}, false
	}
	life, rest, is := number(rest)
	if !is || len(rest) > 0 {
		return ticket.Ticket{}, false
	}
	return ticket.Ticket{Version: version, Time: time, Life: life}, true
}

// texts are all of so many bytes out of some.
func texts(size int, yield func(b []byte)) {
	some := []byte{0, 1, 63, 0x40, 0x41, 0x7f, 0x80, 0xc0}
	b := make([]byte, size)
	many := 1
	for range size {
		many *= len(some)
	}
	for i := range many {
		for j := range b {
			b[j] = some[i%len(some)]
			i /= len(some)
		}
		yield(b)
	}
}

func TestP17_1ManyTexts(t *testing.T) {
	right := 0
	for size := range 5 {
		for _, ahead := range []string{"", "\x00", "\x01\x40"} {
			x := term.New()
			key, s := x.Secret(), x.Secret()
			texts(size, func(b []byte) {
				b = append([]byte(ahead), b...)
				want, is := model(b)
				h := saying(x, key, string(b), s)
				if !is {
					redeems(t, x, key, h, 0, "one of many texts", ticket.Ticket{}, api.ErrToken)
					return
				}
				right++
				want.Secret = s
				redeems(t, x, key, h, want.Time, "one of many texts", want, api.OK)
			})
		}
	}
	if right < 100 {
		t.Errorf("just %d right ones are asked", right)
	}
}

func TestP17_1RedeemInItsLifetime(t *testing.T) {
	x := term.New()
	key, s := x.Secret(), x.Secret()
	for _, life := range []int{0, 1, 5} {
		own := ticket.Ticket{Version: 2, Time: 10, Life: life, Secret: s}
		h := ticket.Issue(x, key, own)
		for _, now := range []int{-1 << 63, -1, 0, 8, 9, 10 + life + 1, 10 + life + 2, greatest, 1<<63 - 1} {
			redeems(t, x, key, h, now, "one out of its lifetime", ticket.Ticket{}, api.ErrOld)
		}
		for now := 10; now <= 10+life; now++ {
			redeems(t, x, key, h, now, "one in its lifetime", own, api.OK)
		}
	}
}

// tooOld: is now below a time, or above it by more than life?
func tooOld(time, now, life int) bool {
	above := new(big.Int).Sub(big.NewInt(int64(now)), big.NewInt(int64(time)))
	return above.Sign() < 0 || above.Cmp(big.NewInt(int64(life))) > 0
}

func TestP17_1RedeemAtAllBorders(t *testing.T) {
	x := term.New()
	key, s := x.Secret(), x.Secret()
	numbers := []int{0, 1, 2, 63, 64, 1 << 40, greatest - 1, greatest}
	for _, time := range numbers {
		for _, life := range numbers {
			own := ticket.Ticket{Version: time, Time: time, Life: life, Secret: s}
			h := ticket.Issue(x, key, own)
			for _, now := range []int{-1 << 63, -1 << 62, -greatest, -1, 0, 1, 2, 3, time - 1, time, time + 1, time + life - 1, time + life, time + life + 1, greatest, greatest + 1, 1<<63 - 1} {
				if tooOld(time, now, life) {
					redeems(t, x, key, h, now, "one that is too old", ticket.Ticket{}, api.ErrOld)
				} else {
					redeems(t, x, key, h, now, "one that is not too old", own, api.OK)
				}
			}
		}
	}
}
