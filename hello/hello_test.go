package hello_test

import (
	"bytes"
	"math"
	"math/rand/v2"
	"slices"
	"strings"
	"testing"

	"shibboleth/api"
	"shibboleth/frame"
	"shibboleth/hello"
	"shibboleth/kinds"
	"shibboleth/params"
	"shibboleth/varint"
)

const (
	most  = 1<<62 - 1 // the greatest number of layer 1
	least = "\x01\x01\x00\x04\x01\x00\x11\x04\x00\x00\x00\x01"
)

// greatest are the bytes of the longest params: 157.
func greatest() string {
	name := bytes.Repeat([]byte("n"), 20)
	p := params.Params{Idle: most, Data: most, HasGoal: true, HasOwn: true, HasRetry: true, Goal: name, Own: name, Retry: name, Chosen: 1<<32 - 1}
	for v := range 16 {
		p.Versions = append(p.Versions, v+1)
	}
	return string(params.Write(p))
}

// said is a message's bytes, in the document's words.
func said(kind byte, parts ...string) string {
	body := strings.Join(parts, "")
	n := len(body)
	return string([]byte{kind, byte(n >> 16), byte(n >> 8), byte(n)}) + body
}

// sample is a message, and the parts of its body.
type sample struct {
	m     hello.Msg
	parts []string
}

func (s sample) bytes() string { return said(byte(s.m.Kind), s.parts...) }

// samples are right messages: of each kind the least and the greatest, and some between.
func samples() []sample {
	long, fifty := greatest(), strings.Repeat("\xff", 50)
	return []sample{
		{hello.Msg{Kind: 1, Random: 1, Share: 1, Params: []byte(least)}, []string{"\x00\x00\x00\x01", "\x00\x00\x00\x01", "\x00", "\x00", "\x0c", least}},
		{hello.Msg{Kind: 1, Random: 258, Share: 3, Flag: true, Params: []byte(least)}, []string{"\x00\x00\x01\x02", "\x00\x00\x00\x03", "\x01", "\x00", "\x0c", least}},
		{hello.Msg{Kind: 1, Random: 5, Share: 6, Ticket: 7, Mac: 8, Params: []byte(least)}, []string{"\x00\x00\x00\x05", "\x00\x00\x00\x06", "\x00", "\x01", "\x00\x00\x00\x07", "\x0c", least, "\x00\x00\x00\x08"}},
		{hello.Msg{Kind: 1, Random: 65536, Share: 65536, Ticket: 65536, Mac: 65536, Flag: true, Params: []byte(long)}, []string{"\x00\x01\x00\x00", "\x00\x01\x00\x00", "\x01", "\x01", "\x00\x01\x00\x00", "\x40\x9d", long, "\x00\x01\x00\x00"}},
		{hello.Msg{Kind: 2, Random: 1, Share: 1, Version: 1}, []string{"\x00\x00\x00\x01", "\x00\x00\x00\x01", "\x00\x00\x00\x01", "\x00"}},
		{hello.Msg{Kind: 2, Random: 65535, Share: 256, Version: 0x01020304}, []string{"\x00\x00\xff\xff", "\x00\x00\x01\x00", "\x01\x02\x03\x04", "\x00"}},
		{hello.Msg{Kind: 2, Random: 65536, Share: 65536, Version: 1<<32 - 1, Flag: true}, []string{"\x00\x01\x00\x00", "\x00\x01\x00\x00", "\xff\xff\xff\xff", "\x01"}},
		{hello.Msg{Kind: 4, Ticket: 1}, []string{"\x00\x00\x00\x01", "\x00"}},
		{hello.Msg{Kind: 4, Ticket: 9, Life: 1 << 14}, []string{"\x00\x00\x00\x09", "\x80\x00\x40\x00"}},
		{hello.Msg{Kind: 4, Ticket: 65536, Life: most}, []string{"\x00\x01\x00\x00", "\xff\xff\xff\xff\xff\xff\xff\xff"}},
		{hello.Msg{Kind: 8, Params: []byte(least)}, []string{"\x00", "\x0c", least}},
		{hello.Msg{Kind: 8, Flag: true, Params: []byte(long)}, []string{"\x01", "\x40\x9d", long}},
		{hello.Msg{Kind: 11, Name: "s"}, []string{"s"}},
		{hello.Msg{Kind: 11, Name: "\x00\x01"}, []string{"\x00\x01"}},
		{hello.Msg{Kind: 11, Name: fifty}, []string{fifty}},
		{hello.Msg{Kind: 15, Mac: 1}, []string{"\x00\x00\x00\x01"}},
		{hello.Msg{Kind: 15, Mac: 65536}, []string{"\x00\x01\x00\x00"}},
		{hello.Msg{Kind: 20, Mac: 7}, []string{"\x00\x00\x00\x07"}},
		{hello.Msg{Kind: 20, Mac: 65536}, []string{"\x00\x01\x00\x00"}},
	}
}

// same: are two messages alike, asked by each field?
func same(a, b hello.Msg) bool {
	return a.Kind == b.Kind && a.Random == b.Random && a.Share == b.Share && a.Ticket == b.Ticket && a.Mac == b.Mac &&
		a.Flag == b.Flag && bytes.Equal(a.Params, b.Params) && a.Name == b.Name && a.Version == b.Version && a.Life == b.Life
}

// right holds what Right tells, and whether Write writes it.
func right(t *testing.T, want bool, m hello.Msg) {
	t.Helper()
	if hello.Right(m) != want {
		t.Errorf("P14.1: right is %t of %+v", !want, m)
	}
	if b := hello.Write(m); len(b) > 0 != want {
		t.Errorf("P14.1: %+v is written as %x", m, b)
	}
}

// reads holds what Read tells.
func reads(t *testing.T, b string, e api.Errno, want hello.Msg) {
	t.Helper()
	if m, got := hello.Read([]byte(b)); got != e || !same(m, want) {
		t.Errorf("P14.1: %.200x: %+v, %d, not %+v, %d", b, m, got, want, e)
	}
}

// none holds that bytes are no right message's.
func none(t *testing.T, b string) {
	t.Helper()
	reads(t, b, api.ErrForm, hello.Msg{})
}

func TestKindsAreTheDocuments(t *testing.T) {
	want := []int{1, 2, 4, 8, 11, 15, 20}
	if got := []int{kinds.ClientHello, kinds.ServerHello, kinds.Ticket, kinds.Params, kinds.Name, kinds.Proof, kinds.Finished}; !slices.Equal(got, want) {
		t.Errorf("kinds: %v", got)
	}
}

func TestP14_1Samples(t *testing.T) {
	for _, s := range samples() {
		right(t, true, s.m)
		if b := hello.Write(s.m); string(b) != s.bytes() {
			t.Errorf("P14.1: %+v: %x, not %x", s.m, b, s.bytes())
		}
		reads(t, s.bytes(), api.OK, s.m)
	}
	if b := hello.Write(hello.Msg{Kind: 20, Mac: 7}); string(b) != "\x14\x00\x00\x04\x00\x00\x00\x07" {
		t.Errorf("P14.1: the example: %x", b)
	}
}

// terms tells where a message's terms stand.
func terms(m *hello.Msg) []*api.Term {
	return []*api.Term{&m.Random, &m.Share, &m.Ticket, &m.Mac}
}

func TestP14_1RightOfTerms(t *testing.T) {
	for _, s := range samples() {
		for i := range terms(&s.m) {
			for h, want := range map[api.Term]bool{math.MinInt: false, -65536: false, -1: false, 0: false, 1: true, 2: true, 65535: true, 65536: true, 65537: false, 1 << 17: false, 1 << 32: false, 1<<32 + 1: false, math.MaxInt: false} {
				m := s.m
				has := *terms(&m)[i] != 0
				*terms(&m)[i] = h
				switch {
				case has:
					right(t, want, m)
				case h != 0:
					right(t, false, m) // its kind has it not, or not alone
				}
			}
		}
	}
}

func TestP14_1RightOfTicketAndMac(t *testing.T) {
	for ticket, is := range map[api.Term]bool{-1: false, 0: false, 1: true, 65536: true, 65537: false} {
		for mac, binds := range map[api.Term]bool{-1: false, 0: false, 1: true, 65536: true, 65537: false} {
			for _, flag := range []bool{false, true} {
				m := hello.Msg{Kind: 1, Random: 1, Share: 2, Flag: flag, Params: []byte(least), Ticket: ticket, Mac: mac}
				right(t, ticket == 0 && mac == 0 || is && binds, m)
			}
		}
	}
}

func TestP14_1RightOfNumbers(t *testing.T) {
	for n, want := range map[int]bool{math.MinInt: false, -1: false, 0: false, 1: true, 258: true, 1<<32 - 1: true, 1 << 32: false, 1<<32 + 1: false, most: false, math.MaxInt: false} {
		right(t, want, hello.Msg{Kind: 2, Random: 1, Share: 2, Version: n})
	}
	for n, want := range map[int]bool{math.MinInt: false, -1 << 62: false, -1: false, 0: true, 63: true, 64: true, 1 << 32: true, most: true, most + 1: false, math.MaxInt: false} {
		right(t, want, hello.Msg{Kind: 4, Ticket: 1, Life: n})
	}
	for n, want := range map[int]bool{0: false, 1: true, 2: true, 49: true, 50: true, 51: false, 255: false, 256: false, 2000: false, 2001: false, 1 << 20: false} {
		for _, x := range []string{"n", "\x00", "\xff"} {
			right(t, want, hello.Msg{Kind: 11, Name: strings.Repeat(x, n)})
		}
	}
	// The name is counted in bytes.
	right(t, true, hello.Msg{Kind: 11, Name: strings.Repeat("\u00e4", 25)})
	right(t, false, hello.Msg{Kind: 11, Name: strings.Repeat("\u00e4", 26)})
}

// wrongParams are bytes that are no params.
func wrongParams() []string {
	long := greatest()
	return []string{"", "\x00", least[:11], least + "\x00", least + least, least[3:], long[:156], long + "\x00", strings.Repeat("\x00", 500), strings.Repeat("\x01", 501), "\x40" + least, "\x01\x01\x00\x04\x01\x00\x11\x04\x00\x00\x00\x00", "\x01\x02\x40\x00\x04\x01\x00\x11\x04\x00\x00\x00\x01"}
}

func TestP14_1RightOfParams(t *testing.T) {
	for _, m := range []hello.Msg{{Kind: 1, Random: 1, Share: 2}, {Kind: 1, Random: 1, Share: 2, Ticket: 3, Mac: 4}, {Kind: 8}, {Kind: 8, Flag: true}} {
		for _, p := range []string{least, greatest()} {
			m.Params = []byte(p)
			right(t, true, m)
		}
		for _, p := range wrongParams() {
			m.Params = []byte(p)
			right(t, false, m)
		}
		m.Params = nil
		right(t, false, m)
	}
}

// filled gives a message a field.
var filled = []func(m *hello.Msg){
	func(m *hello.Msg) { m.Random = 1 },
	func(m *hello.Msg) { m.Share = 1 },
	func(m *hello.Msg) { m.Ticket = 1 },
	func(m *hello.Msg) { m.Mac = 1 },
	func(m *hello.Msg) { m.Flag = true },
	func(m *hello.Msg) { m.Params = []byte(least) },
	func(m *hello.Msg) { m.Name = "n" },
	func(m *hello.Msg) { m.Version = 1 },
	func(m *hello.Msg) { m.Life = 1 },
}

// A message is right just if it has what its kind has, for each kind and all sets of fields.
func TestP14_1RightOfAllFields(t *testing.T) {
	const random, share, ticket, mac, flag, told, name, version, life = 1, 2, 4, 8, 16, 32, 64, 128, 256
	may := map[int][]int{
		1:  {random | share | told, random | share | told | flag, random | share | told | ticket | mac, random | share | told | flag | ticket | mac},
		2:  {random | share | version, random | share | version | flag},
		4:  {ticket, ticket | life},
		8:  {told, told | flag},
		11: {name},
		15: {mac},
		20: {mac},
	}
	for kind := -2; kind < 260; kind++ {
		for set := range 512 {
			m := hello.Msg{Kind: kind}
			for i, fill := range filled {
				if set>>i&1 == 1 {
					fill(&m)
				}
			}
			right(t, slices.Contains(may[kind], set), m)
		}
	}
	for _, kind := range []int{math.MinInt, -256, -255, 1 << 8, 1<<8 + 20, 1 << 32, 1<<32 + 20, math.MaxInt} {
		right(t, false, hello.Msg{Kind: kind, Mac: 1})
	}
	// What it has not is wrong, whatever it is, and what is empty is not there.
	right(t, false, hello.Msg{Kind: 20, Mac: 1, Random: -1})
	right(t, false, hello.Msg{Kind: 20, Mac: 1, Version: -1})
	right(t, false, hello.Msg{Kind: 20, Mac: 1, Life: -1})
	right(t, false, hello.Msg{Kind: 20, Mac: 1, Params: []byte{0}})
	right(t, true, hello.Msg{Kind: 20, Mac: 1, Params: []byte{}})
	right(t, false, hello.Msg{Kind: 8, Params: []byte{}})
}

// Of each message each part is cut, longer, or not there; its length tells so, or does not.
func TestP14_1ReadOfPartsThatAreCut(t *testing.T) {
	for _, s := range samples() {
		all := s.bytes()
		for n := range len(all) {
			none(t, all[:n])
			none(t, all[n+1:])
			none(t, all[:n]+all[n+1:])
		}
		for _, behind := range []string{"\x00", "\x01", all[:4], all} {
			none(t, all+behind)
			none(t, behind+all)
		}
		if s.m.Kind == 11 {
			continue // of a name another part is another name
		}
		kind := byte(s.m.Kind)
		for i := range s.parts {
			swapped := func(part string) string {
				return said(kind, slices.Replace(slices.Clone(s.parts), i, i+1, part)...)
			}
			none(t, swapped(""))
			none(t, swapped(s.parts[i][1:]))
			none(t, swapped(s.parts[i]+"\x00"))
			none(t, swapped(s.parts[i]+s.parts[i]))
			if len(s.parts[i]) > 1 {
				none(t, swapped(s.parts[i][:len(s.parts[i])-1]))
			}
		}
		none(t, said(kind, append(s.parts, "\x00")...))
		none(t, said(kind, append(s.parts, "\x00\x00\x00\x01")...))
	}
	none(t, "")
	if m, e := hello.Read(nil); e != api.ErrForm || !same(m, hello.Msg{}) {
		t.Errorf("P14.1: nil: %+v, %d", m, e)
	}
}

func TestP14_1ReadOfLengths(t *testing.T) {
	for _, s := range samples() {
		body := s.bytes()[4:]
		for n := range len(body) + 300 {
			if n != len(body) {
				none(t, string([]byte{byte(s.m.Kind), 0, byte(n >> 8), byte(n)})+body)
			}
		}
		n := len(body)
		none(t, string([]byte{byte(s.m.Kind), 1, byte(n >> 8), byte(n)})+body)
		none(t, string([]byte{byte(s.m.Kind), byte(n), 0, 0})+body)
	}
	for n, want := range map[int]bool{0: false, 1: true, 49: true, 50: true, 51: false, 52: false, 256: false, 1999: false, 2000: false, 2001: false, 1 << 16: false, 1<<16 + 1: false} {
		name := strings.Repeat("n", n)
		if want {
			reads(t, said(11, name), api.OK, hello.Msg{Kind: 11, Name: name})
		} else {
			none(t, said(11, name))
		}
	}
}

// Each body behind each kind.
func TestP14_1ReadOfKinds(t *testing.T) {
	for _, s := range samples() {
		for kind := range 256 {
			is := holds(t, []byte(said(byte(kind), s.parts...)))
			if kind == s.m.Kind && !is || is && !slices.Contains([]int{1, 2, 4, 8, 11, 15, 20}, kind) {
				t.Errorf("P14.1: %t of %x behind the kind %d", is, s.parts, kind)
			}
		}
	}
	for kind := range 256 {
		if kind != 11 {
			none(t, said(byte(kind)))
			none(t, said(byte(kind), "\x00"))
			none(t, said(byte(kind), "\x01"))
		}
	}
}

// Each term, flag, number and each params in a message is one that may not be.
func TestP14_1ReadOfWrongParts(t *testing.T) {
	noTerms := []string{"\x00\x00\x00\x00", "\x00\x01\x00\x01", "\x00\x02\x00\x00", "\x01\x00\x00\x01", "\xff\xff\xff\xff", "\x80\x00\x00\x01"}
	noFlags := []string{"\x02", "\x03", "\x40", "\x80", "\x81", "\xff"}
	noLives := []string{"\x40\x00", "\x40\x3f", "\x80\x00\x00\x40", "\x80\x00\x3f\xff", "\xc0\x00\x00\x00\x3f\xff\xff\xff", "\x40", "\xff\xff\xff"}
	wrong := func(s sample, i int, parts []string) {
		t.Helper()
		for _, part := range parts {
			none(t, said(byte(s.m.Kind), slices.Replace(slices.Clone(s.parts), i, i+1, part)...))
		}
	}
	for _, s := range samples() {
		switch {
		case s.m.Kind == 2:
			wrong(s, 0, noTerms)
			wrong(s, 1, noTerms)
			wrong(s, 2, []string{"\x00\x00\x00\x00"})
			wrong(s, 3, noFlags)
		case s.m.Kind == 4:
			wrong(s, 0, noTerms)
			wrong(s, 1, noLives)
		case s.m.Kind == 8:
			wrong(s, 0, noFlags)
		case s.m.Kind == 15 || s.m.Kind == 20:
			wrong(s, 0, noTerms)
		case s.m.Kind == 1:
			wrong(s, 0, noTerms)
			wrong(s, 1, noTerms)
			wrong(s, 2, noFlags)
			wrong(s, 3, noFlags)
		}
		if s.m.Kind == 1 && s.m.Ticket != 0 {
			wrong(s, 3, []string{"\x00"}) // a ticket and a mac that were not told of
			wrong(s, 4, noTerms)
			wrong(s, 7, noTerms)
		} else if s.m.Kind == 1 {
			wrong(s, 3, []string{"\x01"}) // a ticket that is not there
		}
	}
}

func TestP14_1ReadOfWrongParams(t *testing.T) {
	hellos := func(count, ticket, mac, p string) []string {
		return []string{
			said(1, "\x00\x00\x00\x01\x00\x00\x00\x02\x00", count, ticket, p, mac),
			said(1, "\x00\x00\x00\x01\x00\x00\x00\x02\x01", count, ticket, p, mac),
		}
	}
	each := func(p string) (l []string) {
		l = append(l, said(8, "\x00", p), said(8, "\x01", p))
		l = append(l, hellos("\x00", "", "", p)...)
		return append(l, hellos("\x01", "\x00\x00\x00\x03", "\x00\x00\x00\x04", p)...)
	}
	behind := func(p string) string { return string(varint.Give(nil, []byte(p))) }
	for _, p := range wrongParams() {
		for _, b := range each(behind(p)) {
			none(t, b)
		}
	}
	for _, p := range []string{least, greatest()} {
		for _, b := range each(behind(p)) {
			m, e := hello.Read([]byte(b))
			if e != api.OK || string(m.Params) != p {
				t.Errorf("P14.1: %x: %+v, %d", b, m, e)
			}
		}
	}
	// A length that is not the params', or not written shortest.
	for _, size := range []string{"\x0b", "\x0d", "\x00", "\x3f", "\x40\x0c", "\x80\x00\x00\x0c", "\xc0\x00\x00\x00\x00\x00\x00\x0c", "\xff\xff\xff\xff\xff\xff\xff\xff", ""} {
		for _, b := range each(size + least) {
			none(t, b)
		}
	}
	// A mac without a ticket, a ticket without a mac, and both in one another's place.
	for _, b := range slices.Concat(hellos("\x00", "", "\x00\x00\x00\x04", behind(least)), hellos("\x01", "\x00\x00\x00\x03", "", behind(least)), hellos("\x01", "", "\x00\x00\x00\x04", behind(least)), hellos("\x01", "\x00\x00\x00\x03\x00\x00\x00\x04", "", behind(least)), hellos("\x02", "\x00\x00\x00\x03\x00\x00\x00\x04", "\x00\x00\x00\x05", behind(least))) {
		none(t, b)
	}
}

// shorter holds what Short tells.
func shorter(t *testing.T, b, want string) {
	t.Helper()
	if got := hello.Short([]byte(b)); string(got) != want {
		t.Errorf("P14.1: short of %x is %x, not %x", b, got, want)
	}
}

func TestP14_1Short(t *testing.T) {
	shorter(t, "", "")
	if b := hello.Short(nil); len(b) != 0 {
		t.Errorf("P14.1: short of nil is %x", b)
	}
	count := 0
	for _, s := range samples() {
		all := s.bytes()
		want := all
		if s.m.Kind == 1 && s.m.Ticket != 0 {
			want = all[:len(all)-4]
			count++
		}
		shorter(t, all, want)
		// What is cut, or has something behind it, is no right one.
		for n := range len(all) {
			shorter(t, all[:n], all[:n])
		}
		shorter(t, all+"\x00", all+"\x00")
		shorter(t, all+all, all+all)
		// Nor is one whose last term is none.
		wrong := all[:len(all)-4] + "\x00\x01\x00\x01"
		if s.m.Kind == 1 {
			shorter(t, wrong, wrong)
		}
	}
	if count != 2 {
		t.Errorf("P14.1: %d have a ticket", count)
	}
	shorter(t, strings.Repeat("\x01", 5000), strings.Repeat("\x01", 5000))
}

// crypto is a frame of crypto bytes.
func crypto(parts ...string) frame.Frame {
	return frame.Frame{Kind: 6, Data: []byte(strings.Join(parts, ""))}
}

// carry holds what Terms tells.
func carry(t *testing.T, l []frame.Frame, want ...api.Term) {
	t.Helper()
	if got := hello.Terms(l); !slices.Equal(got, want) {
		t.Errorf("P14.2: %+v: %v, not %v", l, got, want)
	}
}

// carried are a message's terms, as the document says.
func carried(m hello.Msg) (l []api.Term) {
	for _, h := range terms(&m) {
		if *h != 0 {
			l = append(l, *h)
		}
	}
	return l
}

func TestP14_2TermsOfFrames(t *testing.T) {
	carry(t, nil)
	carry(t, []frame.Frame{})
	token, data := frame.Frame{Kind: 7, Term: 5}, frame.Frame{Kind: 8, Count: 3, Term: 65536}
	others := []frame.Frame{{Kind: 0, Count: 4}, {Kind: 1}, {Kind: 2, Spans: []frame.Span{{From: 1, To: 2}}}, {Kind: 28, Count: 7}, {Kind: 30}}
	carry(t, []frame.Frame{token}, 5)
	carry(t, []frame.Frame{data}, 65536)
	carry(t, []frame.Frame{data, token, token, data}, 65536, 5, 5, 65536)
	carry(t, others)
	for i := range others {
		carry(t, others[i:i+1])
		carry(t, append(slices.Insert(slices.Clone(others), i, token), data), 5, 65536)
	}
	// Of a kind that has no term none is told, and none is told that is no term.
	for kind := -2; kind < 260; kind++ {
		if kind != 7 && kind != 8 {
			carry(t, []frame.Frame{{Kind: kind, Term: 5}})
			continue
		}
		for _, h := range []api.Term{math.MinInt, -1, 0, 65537, 1 << 32, 1<<32 + 1} {
			carry(t, []frame.Frame{{Kind: kind, Term: h}, token}, 5)
		}
	}
}

func TestP14_2TermsOfMessages(t *testing.T) {
	for _, s := range samples() {
		all := s.bytes()
		carry(t, []frame.Frame{crypto(all)}, carried(s.m)...)
		carry(t, []frame.Frame{{Kind: 6, At: 77, Data: []byte(all)}}, carried(s.m)...)
		// Half a message, a whole one with half of one behind it, and two halves in two frames.
		for n := 1; n < len(all); n++ {
			carry(t, []frame.Frame{crypto(all[:n])})
			carry(t, []frame.Frame{crypto(all[n:])})
			carry(t, []frame.Frame{crypto(all, all[:n])})
			carry(t, []frame.Frame{crypto(all[:n]), crypto(all[n:])})
		}
		carry(t, []frame.Frame{crypto(all, "\x00")})
		carry(t, []frame.Frame{crypto("\x00", all)})
		for _, other := range samples() {
			carry(t, []frame.Frame{crypto(all, other.bytes())}, append(carried(s.m), carried(other.m)...)...)
			carry(t, []frame.Frame{crypto(all), crypto(other.bytes())}, append(carried(s.m), carried(other.m)...)...)
		}
		for _, wrong := range []string{said(0), said(3), said(20), said(20, "\x00\x00\x00\x00"), said(11), said(255, "xy")} {
			carry(t, []frame.Frame{crypto(wrong)})
			carry(t, []frame.Frame{crypto(all, wrong)})
			carry(t, []frame.Frame{crypto(wrong, all)})
			carry(t, []frame.Frame{crypto(all, wrong, all)})
			carry(t, []frame.Frame{crypto(wrong), crypto(all)}, carried(s.m)...)
		}
	}
}

func TestP14_2TermsInOrder(t *testing.T) {
	first := said(1, "\x00\x00\x00\x09\x00\x00\x00\x08\x01\x01\x00\x00\x00\x07\x0c", least, "\x00\x00\x00\x06")
	answer := said(2, "\x00\x00\x00\x05\x00\x00\x00\x04\x00\x00\x00\x01\x01")
	pass, finished := said(4, "\x00\x00\x00\x03\x01"), said(20, "\x00\x00\x00\x02")
	carry(t, []frame.Frame{crypto(first)}, 9, 8, 7, 6)
	carry(t, []frame.Frame{crypto(finished, pass, answer, first)}, 2, 3, 5, 4, 9, 8, 7, 6)
	carry(t, []frame.Frame{{Kind: 8, Term: 11}, crypto(pass, finished), {Kind: 1}, crypto(first[:9]), {Kind: 7, Term: 10}, crypto(answer, finished), {Kind: 8, Term: 2}}, 11, 3, 2, 10, 5, 4, 2, 2)
	carry(t, []frame.Frame{crypto(strings.Repeat(finished, 100))}, slices.Repeat([]api.Term{2}, 100)...)
}

// told is the message that the document says bytes are, taken part by part as its table stands; false, if they are none.
func told(b []byte) (m hello.Msg, ok bool) {
	if len(b) < 4 || len(b) != 4+int(b[1])<<16+int(b[2])<<8+int(b[3]) {
		return hello.Msg{}, false
	}
	m.Kind = int(b[0])
	b = b[4:]
	ok = true
	cut := func(n int) []byte {
		if n > len(b) {
			ok = false
			return make([]byte, 4)[:min(n, 4)]
		}
		part := b[:n]
		b = b[n:]
		return part
	}
	number := func(size, from, to int) int {
		n := 0
		for _, x := range cut(size) {
			n = n*256 + int(x)
		}
		ok = ok && n >= from && n <= to
		return n
	}
	term := func() api.Term { return api.Term(number(4, 1, 65536)) }
	flag := func() bool { return number(1, 0, 1) == 1 }
	short := func() int {
		n, size, e := varint.Read(b)
		ok = ok && e == api.OK
		cut(size)
		return n
	}
	about := func() []byte {
		p := cut(short())
		_, e := params.Read(p)
		ok = ok && e == api.OK
		return p
	}
	switch m.Kind {
	case 1:
		m.Random, m.Share, m.Flag = term(), term(), flag()
		has := flag()
		if has {
			m.Ticket = term()
		}
		m.Params = about()
		if has {
			m.Mac = term()
		}
	case 2:
		m.Random, m.Share, m.Version, m.Flag = term(), term(), number(4, 1, 1<<32-1), flag()
	case 4:
		m.Ticket, m.Life = term(), short()
	case 8:
		m.Flag, m.Params = flag(), about()
	case 11:
		ok = ok && len(b) >= 1 && len(b) <= 50
		m.Name = string(cut(len(b)))
	case 15, 20:
		m.Mac = term()
	default:
		ok = false
	}
	return m, ok && len(b) == 0
}

// spoken are the terms of the messages that the document says bytes consist of.
func spoken(b []byte) (l []api.Term) {
	for len(b) > 0 {
		n := 4
		if len(b) >= n {
			n += int(b[1])<<16 + int(b[2])<<8 + int(b[3])
		}
		n = min(n, len(b))
		m, ok := told(b[:n])
		if !ok {
			return nil
		}
		l = append(l, carried(m)...)
		b = b[n:]
	}
	return l
}

// holds holds what Read, Short and Terms tell of bytes against what they have to tell, and P14.3; it tells whether they are a message's.
func holds(t *testing.T, b []byte) bool {
	t.Helper()
	carry(t, []frame.Frame{crypto(string(b))}, spoken(b)...)
	m, ok := told(b)
	if !ok {
		none(t, string(b))
		shorter(t, string(b), string(b))
		return false
	}
	reads(t, string(b), api.OK, m)
	read, _ := hello.Read(b)
	right(t, true, read)
	if again := hello.Write(read); !bytes.Equal(again, b) {
		t.Errorf("P14.3: %x is written as %x", b, again)
	}
	short := len(b)
	if m.Kind == 1 && m.Ticket != 0 {
		short -= 4
	}
	shorter(t, string(b), string(b[:short]))
	return true
}

// handle is a term's number, whichever.
func handle(r *rand.Rand) api.Term {
	return api.Term(1 + r.IntN(1<<(1+r.IntN(16))))
}

// about are right params' bytes.
func about(r *rand.Rand) []byte {
	p := params.Params{Idle: r.IntN(1 << (1 + r.IntN(62))), Data: r.IntN(1 << (1 + r.IntN(62))), Chosen: 1 + r.IntN(1<<(1+r.IntN(32))-1)}
	if r.IntN(2) == 0 {
		p.HasOwn, p.Own = true, []byte("own....")[:r.IntN(8)]
	}
	for v := range r.IntN(17) {
		p.Versions = append(p.Versions, 1+7*v+r.IntN(7))
	}
	return params.Write(p)
}

// random is a right message.
func random(r *rand.Rand) hello.Msg {
	m := hello.Msg{Kind: []int{1, 2, 4, 8, 11, 15, 20}[r.IntN(7)]}
	switch m.Kind {
	case 1:
		m.Random, m.Share, m.Flag, m.Params = handle(r), handle(r), r.IntN(2) == 0, about(r)
		if r.IntN(2) == 0 {
			m.Ticket, m.Mac = handle(r), handle(r)
		}
	case 2:
		m.Random, m.Share, m.Flag, m.Version = handle(r), handle(r), r.IntN(2) == 0, 1+r.IntN(1<<(1+r.IntN(32))-1)
	case 4:
		m.Ticket, m.Life = handle(r), r.IntN(1<<(1+r.IntN(62)))
	case 8:
		m.Flag, m.Params = r.IntN(2) == 0, about(r)
	case 11:
		name := make([]byte, 1+r.IntN(50))
		for i := range name {
			name[i] = byte(r.Uint32())
		}
		m.Name = string(name)
	default:
		m.Mac = handle(r)
	}
	return m
}

func TestP14_3WrittenIsRead(t *testing.T) {
	r := rand.New(rand.NewPCG(14, 3))
	for range 30000 {
		m := random(r)
		right(t, true, m)
		b := hello.Write(m)
		reads(t, string(b), api.OK, m)
		holds(t, b)
	}
}

// What is read of messages that are changed a little is what the document says.
func TestP14_3ReadIsWritten(t *testing.T) {
	r := rand.New(rand.NewPCG(14, 4))
	var counts [2]int
	for range 150000 {
		if holds(t, changed(r)) {
			counts[1]++
		} else {
			counts[0]++
		}
	}
	if counts[0] < 40000 || counts[1] < 40000 {
		t.Errorf("P14.3: %v are none, and are messages", counts)
	}
}

// changed is a message's bytes, at times changed a little.
func changed(r *rand.Rand) []byte {
	b := hello.Write(random(r))
	for range r.IntN(3) {
		switch i := r.IntN(len(b)); r.IntN(5) {
		case 0:
			b[i] = byte(r.Uint32())
		case 1:
			b[i] ^= 1 << r.IntN(8)
		case 2:
			b = slices.Insert(b, i, []byte{0, 1, 2, 4, 12, 0x40, 0xff}[r.IntN(7)])
		case 3:
			b = b[:i+1]
		default:
			if len(b) > 1 {
				b = slices.Delete(b, i, i+1)
			}
		}
		// More often than not the length is right again.
		if len(b) >= 4 && r.IntN(4) > 0 {
			copy(b, said(b[0], string(b[4:]))[:4])
		}
	}
	return b
}

// All bodies of up to five bytes, of some bytes, and of each kind.
func TestP14_3ReadIsWrittenShort(t *testing.T) {
	some := []byte{0, 1, 2, 0x40}
	count := 0
	var walk func(b []byte)
	walk = func(b []byte) {
		for kind := range 32 {
			if holds(t, []byte(said(byte(kind), string(b)))) {
				count++
			}
		}
		if len(b) < 5 {
			for _, x := range some {
				walk(append(slices.Clone(b), x))
			}
		}
	}
	walk(nil)
	if count < 1000 {
		t.Errorf("P14.3: only %d messages", count)
	}
}

// Frames of all kinds, with messages that are changed at times, carry what the document says.
func TestP14_2TermsAsTheDocument(t *testing.T) {
	r := rand.New(rand.NewPCG(14, 2))
	counts := map[bool]int{}
	for range 20000 {
		var l []frame.Frame
		var want []api.Term
		for range r.IntN(6) {
			switch h := handle(r); r.IntN(6) {
			case 0:
				l, want = append(l, frame.Frame{Kind: 7, Term: h}), append(want, h)
			case 1:
				l, want = append(l, frame.Frame{Kind: 8, Count: r.IntN(9), Term: h}), append(want, h)
			case 2:
				l = append(l, frame.Frame{Kind: []int{0, 1, 28, 30}[r.IntN(4)], Count: r.IntN(9)})
			default:
				b := hello.Write(random(r))
				for range r.IntN(3) {
					b = append(b, changed(r)...)
				}
				l, want = append(l, frame.Frame{Kind: 6, At: r.IntN(9), Data: b}), append(want, spoken(b)...)
				counts[len(spoken(b)) > 0]++
			}
		}
		carry(t, l, want...)
	}
	if counts[true] < 5000 || counts[false] < 5000 {
		t.Errorf("P14.2: %v", counts)
	}
}

// room is bytes with spare room behind them, filled with dots.
func room(s string) []byte {
	return append([]byte(s), "............"...)[:len(s)]
}

// untouched holds that bytes of room are as they were, and their spare room.
func untouched(t *testing.T, b []byte, was string) {
	t.Helper()
	if string(b[:len(was)+12]) != was+"............" {
		t.Errorf("R4: %x is changed: %x", was, b[:len(was)+12])
	}
}

func TestR4ArgumentsStay(t *testing.T) {
	p := room(least)
	m := hello.Msg{Kind: 1, Random: 1, Share: 2, Ticket: 3, Mac: 4, Params: p}
	hello.Right(m)
	b := hello.Write(m)
	untouched(t, p, least)
	all := room(string(b))
	hello.Read(all)
	hello.Short(all)
	l := []frame.Frame{{Kind: 6, Data: all}, {Kind: 7, Term: 5}, {Kind: 1}}
	hello.Terms(l[:2])
	untouched(t, all, string(b))
	if l[0].Kind != 6 || len(l[0].Data) != len(all) || l[1].Term != 5 || l[2].Kind != 1 {
		t.Errorf("R4: Terms changed %+v", l)
	}
}

func TestR4AnswersAreNew(t *testing.T) {
	for _, i := range []int{3, 11} {
		s := samples()[i]
		p := bytes.Clone(s.m.Params)
		s.m.Params = p
		b := hello.Write(s.m)
		clear(p)
		if string(b) != s.bytes() {
			t.Errorf("R4: what was written is the argument's: %x", b)
		}
		m, _ := hello.Read(b)
		clear(b)
		if !same(m, samples()[i].m) {
			t.Errorf("R4: what was read is the argument's: %+v", m)
		}
		for _, all := range []string{s.bytes(), s.bytes()[1:]} {
			b = []byte(all)
			short := hello.Short(b)
			clear(b)
			if len(short) == 0 || !strings.HasPrefix(all, string(short)) {
				t.Errorf("R4: Short is the argument's: %x", short)
			}
			b = []byte(all)
			clear(append(hello.Short(b), "xxxxxxxx"...))
			if string(b) != all {
				t.Errorf("R4: the argument is Short's: %x", b)
			}
		}
	}
}
