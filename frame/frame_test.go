package frame_test

import (
	"bytes"
	"math/rand/v2"
	"slices"
	"strings"
	"testing"

	"shibboleth/api"
	"shibboleth/frame"
	"shibboleth/kinds"
	"shibboleth/varint"
)

const most = 1<<62 - 1 // the greatest number

// The frames that many tests write.
var (
	ping = frame.Frame{Kind: 1}
	done = frame.Frame{Kind: 30}
)

func padding(n int) frame.Frame { return frame.Frame{Kind: 0, Count: n} }

func crypto(at, n int) frame.Frame {
	return frame.Frame{Kind: 6, At: at, Data: bytes.Repeat([]byte("d"), n)}
}

func token(h api.Term) frame.Frame { return frame.Frame{Kind: 7, Term: h} }

func data(n int, h api.Term) frame.Frame { return frame.Frame{Kind: 8, Count: n, Term: h} }

func closing(code int) frame.Frame { return frame.Frame{Kind: 28, Count: code} }

// ack is one of spans, each from a number to another one.
func ack(ends ...int) frame.Frame {
	f := frame.Frame{Kind: 2}
	for i := 0; i < len(ends); i += 2 {
		f.Spans = append(f.Spans, frame.Span{From: ends[i], To: ends[i+1]})
	}
	return f
}

// odds is an ack of n spans of one number each, with one missing between two.
func odds(n int) frame.Frame {
	var ends []int
	for i := n; i > 0; i-- {
		ends = append(ends, 2*i, 2*i)
	}
	return ack(ends...)
}

// same: are two frames alike, be an empty list nil or not?
func same(a, b frame.Frame) bool {
	return a.Kind == b.Kind && a.Count == b.Count && a.At == b.At && a.Term == b.Term && bytes.Equal(a.Data, b.Data) && slices.Equal(a.Spans, b.Spans)
}

// right holds what Right tells, and whether Write writes it.
func right(t *testing.T, want bool, f frame.Frame) {
	t.Helper()
	if frame.Right(f) != want {
		t.Errorf("P6.1: right is %t of %v", !want, f)
	}
	e := api.OK
	if !want {
		e = api.ErrArg
	}
	if b, got := frame.Write([]frame.Frame{f}); got != e || want == (len(b) == 0) {
		t.Errorf("P6.1: of %v: %x, %d", f, b, got)
	}
}

func TestP6_1RightNumbers(t *testing.T) {
	for n, want := range map[int]bool{-1 << 63: false, -1: false, 0: false, 1: true, 2: true, 1200: true, 1201: false, 1 << 32: false} {
		right(t, want, padding(n))
	}
	for n, want := range map[int]bool{-1 << 63: false, -1: false, 0: true, 63: true, 64: true, 1 << 30: true, most: true, most + 1: false, 1<<63 - 1: false} {
		right(t, want, data(n, 1))
		right(t, want, closing(n))
		right(t, want, ack(n, n))
	}
	for n, want := range map[int]bool{-1 << 63: false, -1: false, 0: true, 63: true, 1 << 20: true, 1<<20 + 1: false, most: false} {
		right(t, want, crypto(n, 1))
	}
	for n, want := range map[int]bool{0: false, 1: true, 63: true, 64: true, 1000: true, 1001: false, 1200: false, 5000: false} {
		right(t, want, crypto(0, n))
		right(t, want, crypto(1<<20, n))
	}
	for h, want := range map[api.Term]bool{-1 << 63: false, -1: false, 0: false, 1: true, 258: true, 65536: true, 65537: false, 1 << 32: false, 1<<32 + 1: false} {
		right(t, want, token(h))
		right(t, want, data(0, h))
	}
	right(t, true, ping)
	right(t, true, done)
}

func TestP6_1RightSpans(t *testing.T) {
	for n, want := range map[int]bool{0: false, 1: true, 2: true, 31: true, 32: true, 33: false, 64: false} {
		right(t, want, odds(n))
	}
	for _, x := range []struct {
		want bool
		ends []int
	}{
		{true, []int{0, 0}}, {true, []int{0, most}}, {true, []int{3, 5}}, {true, []int{most, most}},
		{false, []int{5, 3}}, {false, []int{1, 0}}, {false, []int{-1, 0}}, {false, []int{-2, -1}}, {false, []int{0, most + 1}}, {false, []int{most + 1, most + 1}}, {false, []int{-1 << 63, 1<<63 - 1}},
		{true, []int{7, 7, 3, 5}}, {true, []int{7, 9, 5, 5}}, {true, []int{2, 2, 0, 0}}, {true, []int{2, most, 0, 0}},
		// None is missing between two, or they overlap, or the greatest stands behind.
		{false, []int{7, 7, 3, 6}}, {false, []int{1, 1, 0, 0}}, {false, []int{7, 7, 3, 7}}, {false, []int{7, 7, 7, 7}}, {false, []int{7, 9, 3, 12}}, {false, []int{3, 5, 7, 7}}, {false, []int{3, 5, 1, 2}},
		// One of several is not right.
		{false, []int{7, 7, 5, 3}}, {false, []int{7, 7, -1, 5}}, {false, []int{7, 7, -3, -2}}, {false, []int{9, 8, 3, 5}}, {false, []int{9, 9, 5, 5, 4, 4}}, {false, []int{9, 9, 5, 5, 7, 7}},
		{false, []int{0, 0, -1 << 63, 1<<63 - 1}}, {false, []int{1 << 40, 1<<63 - 1, 0, 0}},
	} {
		right(t, x.want, ack(x.ends...))
	}
}

// filled gives a frame a field.
var filled = []func(f *frame.Frame){
	func(f *frame.Frame) { f.Count = 1 },
	func(f *frame.Frame) { f.Spans = []frame.Span{{From: 1, To: 1}} },
	func(f *frame.Frame) { f.At = 1 },
	func(f *frame.Frame) { f.Data = []byte{1} },
	func(f *frame.Frame) { f.Term = 1 },
}

// A frame is right just if it has no field that its kind has not, for each kind and all sets of fields.
func TestP6_1RightOfAllFields(t *testing.T) {
	const count, spans, at, bits, term = 1, 2, 4, 8, 16
	may := map[int][]int{
		0: {count}, 1: {0}, 2: {spans}, 6: {bits, at | bits}, 7: {term}, 8: {term, count | term}, 28: {0, count}, 30: {0},
	}
	for kind := -2; kind < 260; kind++ {
		for set := range 32 {
			f := frame.Frame{Kind: kind}
			for i, fill := range filled {
				if set>>i&1 == 1 {
					fill(&f)
				}
			}
			right(t, slices.Contains(may[kind], set), f)
		}
	}
	for _, kind := range []int{-1 << 63, -256, 1 << 8, 1<<8 + 1, 1 << 32, 1<<32 + 30, 1<<63 - 1} {
		right(t, false, frame.Frame{Kind: kind})
	}
	right(t, false, frame.Frame{Kind: 1, Count: -1})
	right(t, false, frame.Frame{Kind: 1, At: -1})
	right(t, false, frame.Frame{Kind: 1, Term: -1})
	right(t, true, frame.Frame{Kind: 1, Spans: []frame.Span{}, Data: []byte{}})
	right(t, false, frame.Frame{Kind: 2, Spans: []frame.Span{}})
	right(t, false, frame.Frame{Kind: 6, Data: []byte{}})
}

func TestKindsAreTheDocuments(t *testing.T) {
	want := []int{0, 1, 2, 6, 7, 8, 28, 30}
	if got := []int{kinds.Padding, kinds.Ping, kinds.Ack, kinds.Crypto, kinds.Token, kinds.Data, kinds.Close, kinds.Done}; !slices.Equal(got, want) {
		t.Errorf("kinds: %v", got)
	}
}

// writes holds what Write tells.
func writes(t *testing.T, want string, e api.Errno, l ...frame.Frame) {
	t.Helper()
	if b, got := frame.Write(l); string(b) != want || got != e {
		t.Errorf("P6.1: %v: %x, %d, not %x, %d", l, b, got, want, e)
	}
}

func TestP6_1WriteTellsBytes(t *testing.T) {
	d := strings.Repeat("d", 1000)
	for _, x := range []struct {
		f    frame.Frame
		want string
	}{
		{padding(1), "\x00"},
		{padding(5), "\x00\x00\x00\x00\x00"},
		{padding(1200), string(make([]byte, 1200))},
		{ping, "\x01"},
		{ack(7, 7, 3, 5), "\x02\x07\x01\x00\x00\x02"},
		{ack(0, 0), "\x02\x00\x00\x00"},
		{ack(0, 63), "\x02\x3f\x00\x3f"},
		{ack(1, 65), "\x02\x40\x41\x00\x40\x40"},
		{ack(100, 200, 2, 30, 0, 0), "\x02\x40\xc8\x02\x40\x64\x40\x44\x1c\x00\x00"},
		{ack(0, most), "\x02\xff\xff\xff\xff\xff\xff\xff\xff\x00\xff\xff\xff\xff\xff\xff\xff\xff"},
		{odds(32), "\x02\x40\x40\x1f\x00" + strings.Repeat("\x00\x00", 31)},
		{crypto(0, 1), "\x06\x00\x01d"},
		{crypto(1<<20, 64), "\x06\x80\x10\x00\x00\x40\x40" + d[:64]},
		{crypto(64, 1000), "\x06\x40\x40\x43\xe8" + d},
		{token(1), "\x07\x00\x00\x00\x01"},
		{token(65536), "\x07\x00\x01\x00\x00"},
		{data(0, 258), "\x08\x00\x00\x00\x01\x02"},
		{data(1<<14, 5), "\x08\x80\x00\x40\x00\x00\x00\x00\x05"},
		{closing(0), "\x1c\x00"},
		{closing(12), "\x1c\x0c"},
		{closing(most), "\x1c\xff\xff\xff\xff\xff\xff\xff\xff"},
		{done, "\x1e"},
	} {
		writes(t, x.want, api.OK, x.f)
		if len(x.want) < 1197 {
			writes(t, "\x01"+x.want+"\x1e", api.OK, ping, x.f, done)
		}
	}
	writes(t, "\x02\x07\x01\x00\x00\x02\x00\x00\x06\x01\x02dd\x08\x01\x00\x00\x01\x02\x00\x1c\x03", api.OK, ack(7, 7, 3, 5), padding(2), crypto(1, 2), data(1, 258), padding(1), closing(3))
}

func TestP6_1WriteOfWrong(t *testing.T) {
	writes(t, "", api.ErrArg)
	if b, e := frame.Write([]frame.Frame{}); len(b) != 0 || e != api.ErrArg {
		t.Errorf("P6.1: no frames: %x, %d", b, e)
	}
	wrong := frame.Frame{Kind: 3}
	writes(t, "", api.ErrArg, wrong)
	writes(t, "", api.ErrArg, wrong, ping)
	writes(t, "", api.ErrArg, ping, wrong)
	writes(t, "", api.ErrArg, ping, padding(0), ping)
	writes(t, "", api.ErrArg, padding(1), padding(1))
	writes(t, "", api.ErrArg, ping, padding(3), padding(1200), ping)
	writes(t, "\x00\x01\x00", api.OK, padding(1), ping, padding(1))
	writes(t, "\x01\x01", api.OK, ping, ping)
	// A frame that may not be counts ahead of too many bytes, wherever it stands.
	writes(t, "", api.ErrArg, padding(1200), ping, wrong)
	writes(t, "", api.ErrArg, crypto(0, 1000), crypto(0, 1000), padding(1), padding(1))
}

func TestP6_1WriteOfTooMany(t *testing.T) {
	zeros := string(make([]byte, 1200))
	writes(t, zeros[1:]+"\x01", api.OK, padding(1199), ping)
	writes(t, "", api.ErrLong, padding(1200), ping)
	writes(t, "", api.ErrLong, ping, padding(1200))
	writes(t, "", api.ErrLong, crypto(0, 1000), crypto(1000, 1000))
	// 1005 bytes of the first one, 195 then, or 196.
	writes(t, "\x06\x40\x40\x43\xe8"+strings.Repeat("d", 1000)+zeros[:195], api.OK, crypto(64, 1000), padding(195))
	writes(t, "", api.ErrLong, crypto(64, 1000), padding(196))
	writes(t, strings.Repeat("\x01", 1200), api.OK, slices.Repeat([]frame.Frame{ping}, 1200)...)
	writes(t, "", api.ErrLong, slices.Repeat([]frame.Frame{ping}, 1201)...)
	writes(t, "", api.ErrLong, slices.Repeat([]frame.Frame{ping}, 1000000)...)
}

// reads holds what Read tells.
func reads(t *testing.T, b string, e api.Errno, want ...frame.Frame) {
	t.Helper()
	if l, got := frame.Read([]byte(b)); got != e || !slices.EqualFunc(l, want, same) {
		t.Errorf("P6.2: %.100x: %v, %d, not %v, %d", b, l, got, want, e)
	}
}

func TestP6_2ReadOfLengths(t *testing.T) {
	reads(t, "", api.ErrForm)
	if l, e := frame.Read(nil); len(l) != 0 || e != api.ErrForm {
		t.Errorf("P6.2: nil: %v, %d", l, e)
	}
	reads(t, string(make([]byte, 1200)), api.OK, padding(1200))
	reads(t, string(make([]byte, 1199))+"\x01", api.OK, padding(1199), ping)
	reads(t, strings.Repeat("\x01", 1200), api.OK, slices.Repeat([]frame.Frame{ping}, 1200)...)
	for _, n := range []int{1201, 1202, 5000} {
		for _, x := range []string{"\x00", "\x01", "\x03", "\xff"} {
			reads(t, strings.Repeat(x, n), api.ErrLong)
		}
	}
}

func TestP6_2ReadOfAllFirstBytes(t *testing.T) {
	behind := map[int]string{0: "", 1: "", 2: "\x00\x00\x00", 6: "\x00\x01d", 7: "\x00\x00\x00\x01", 8: "\x00\x00\x00\x00\x01", 28: "\x00", 30: ""}
	for first := range 256 {
		b := string([]byte{byte(first)})
		e := api.ErrForm
		if rest, is := behind[first]; is {
			b, e = b+rest, api.OK
		}
		if l, got := frame.Read([]byte(b)); got != e || (e == api.OK) != (len(l) == 1) {
			t.Errorf("P6.2: %x: %v, %d", b, l, got)
		}
	}
}

// Of frames that are cut short, only what is cut behind a frame is a content.
func TestP6_2ReadCutShort(t *testing.T) {
	l := []frame.Frame{ping, ack(7, 7, 3, 5), crypto(64, 3), token(258), data(64, 1), closing(64), padding(3), done}
	whole, _ := frame.Write(l)
	var ends []int
	for i := range l {
		b, _ := frame.Write(l[:i+1])
		ends = append(ends, len(b))
	}
	for n := range len(whole) {
		i := slices.Index(ends, n)
		switch {
		case i >= 0:
			reads(t, string(whole[:n]), api.OK, l[:i+1]...)
		case n > ends[5] && n < ends[6]:
			reads(t, string(whole[:n]), api.OK, append(slices.Clone(l[:6]), padding(n-ends[5]))...)
		default:
			reads(t, string(whole[:n]), api.ErrForm)
		}
	}
	reads(t, string(whole), api.OK, l...)
}

func TestP6_2ReadOfNoForm(t *testing.T) {
	d := strings.Repeat("d", 1200)
	eight := "\xff\xff\xff\xff\xff\xff\xff\xff"
	for _, b := range []string{
		// An ack: below 0, too many spans, not written shortest.
		"\x02\x07\x01\x00\x06\x00", "\x02\x00\x00\x01", "\x02\x05\x00\x06", "\x02\x05\x01\x00\x04\x00", "\x02\x05\x01\x05\x00\x00", "\x02\x05\x01\x00\x01\x03", "\x02\x00\x01\x00\x00\x00", "\x02\x01\x01\x00\x00\x00",
		"\x02\x05\x20", "\x02\x40\x64\x20\x00" + strings.Repeat("\x00\x00", 32), "\x02\x40\x64\x21\x00" + strings.Repeat("\x00\x00", 33), "\x02\x05" + eight + "\x00\x00",
		"\x02\x40\x05\x00\x00", "\x02\x05\x40\x00\x00", "\x02\x05\x00\x40\x00", "\x02\x05\x01\x00\x40\x00\x00", "\x02\x05\x01\x00\x00\x40\x00",
		"\x02\x05\x00" + eight, "\x02\x05\x01\x00" + eight + "\x00", "\x02\x05\x01\x00\x00" + eight, "\x02\x05\x01\x00" + eight + eight,
		"\x02\x05\x02\x00" + eight + eight + "\xc0\x00\x00\x00\x40\x00\x00\x00\x00",
		"\x02" + eight + "\x04\x00" + strings.Repeat(eight+eight, 4), "\x02" + eight + "\x02\x00" + strings.Repeat(eight+eight, 2),
		// Crypto: where, how many.
		"\x06\x80\x10\x00\x01\x01d", "\x06" + eight + "\x01d", "\x06\x40\x00\x01d", "\x06\x00\x00", "\x06\x00\x00\x01", "\x06\x00\x40\x01d", "\x06\x00\x43\xe9" + d[:1001], "\x06\x00\x44\xaa" + d[:1194], "\x06\x00" + eight + d[:9],
		// A term's number.
		"\x07\x00\x00\x00\x00", "\x07\x00\x01\x00\x01", "\x07\x01\x00\x00\x01", "\x07\xff\xff\xff\xff", "\x08\x00\x00\x00\x00\x00", "\x08\x00\x00\x01\x00\x01", "\x08\x40\x00\x00\x00\x00\x01",
		"\x1c\x40\x3f", "\x1c\x80\x00\x00\x40", "\x1c\xc0\x00\x00\x00\x00\x00\x00\x05",
		// What is no kind.
		"\x03", "\x04\x00\x00", "\x05", "\x09\x00\x00\x00\x00\x01", "\x1d\x00", "\x1f", "\x40\x01", "\x40\x00", "\x80", "\xff",
	} {
		reads(t, b, api.ErrForm)
		reads(t, "\x01"+b, api.ErrForm)
		reads(t, b+"\x01", api.ErrForm)
	}
	reads(t, "\x06\x00\x02d", api.ErrForm)
	reads(t, "\x06\x00\x02d\x01", api.OK, frame.Frame{Kind: 6, Data: []byte("d\x01")})
}

func TestP6_2ReadAtTheEdges(t *testing.T) {
	d := strings.Repeat("d", 1000)
	for b, want := range map[string]frame.Frame{
		"\x02\x07\x01\x00\x05\x00":                              ack(7, 7, 0, 0),
		"\x02\x07\x01\x02\x00\x03":                              ack(5, 7, 0, 3),
		"\x02\x40\x40\x1f\x00" + strings.Repeat("\x00\x00", 31): odds(32),
		"\x06\x80\x10\x00\x00\x01d":                             crypto(1<<20, 1),
		"\x06\x00\x43\xe8" + d:                                  crypto(0, 1000),
		"\x07\x00\x01\x00\x00":                                  token(65536),
		"\x1c\xff\xff\xff\xff\xff\xff\xff\xff":                  closing(most),
		"\x02\xff\xff\xff\xff\xff\xff\xff\xff\x00\xff\xff\xff\xff\xff\xff\xff\xff":         ack(0, most),
		"\x02\xff\xff\xff\xff\xff\xff\xff\xff\x01\x00\xff\xff\xff\xff\xff\xff\xff\xfd\x00": ack(most, most, 0, 0),
	} {
		reads(t, b, api.OK, want)
		reads(t, b+"\x01", api.OK, want, ping)
	}
}

// told are the frames that the document says bytes are, with what is right asked by the table alone; false, if they are none.
func told(b []byte) (l []frame.Frame, ok bool) {
	ok = len(b) > 0
	number := func() int {
		n, size, e := varint.Read(b)
		ok = ok && e == api.OK
		b = b[size:]
		return n
	}
	bytes := func(n int) []byte {
		if n > len(b) {
			ok = false
			return nil
		}
		part := b[:n]
		b = b[n:]
		return part
	}
	term := func() api.Term {
		h := 0
		for _, x := range bytes(4) {
			h = h*256 + int(x)
		}
		ok = ok && h >= 1 && h <= 65536
		return api.Term(h)
	}
	for ok && len(b) > 0 {
		f := frame.Frame{Kind: int(bytes(1)[0])}
		switch f.Kind {
		case 0:
			if len(l) > 0 && l[len(l)-1].Kind == 0 {
				l[len(l)-1].Count++
				continue
			}
			f.Count = 1
		case 1, 30:
		case 2:
			to, n := number(), number()+1
			ok = ok && n <= 32
			for i := 0; ok && i < n; i++ {
				if i > 0 {
					to -= number() + 2
				}
				many := number() + 1
				f.Spans = append(f.Spans, frame.Span{From: to - many + 1, To: to})
				to -= many - 1
				ok = ok && to >= 0
			}
		case 6:
			f.At = number()
			f.Data = bytes(number())
			ok = ok && f.At <= 1<<20 && len(f.Data) >= 1 && len(f.Data) <= 1000
		case 7:
			f.Term = term()
		case 8:
			f.Count = number()
			f.Term = term()
		case 28:
			f.Count = number()
		default:
			ok = false
		}
		l = append(l, f)
	}
	return l, ok
}

// holds holds what Read tells of bytes against what it has to tell, and P6.3; it tells whether they are a content.
func holds(t *testing.T, b []byte) bool {
	t.Helper()
	l, ok := told(b)
	if !ok {
		reads(t, string(b), api.ErrForm)
		return false
	}
	reads(t, string(b), api.OK, l...)
	l, _ = frame.Read(b)
	if again, e := frame.Write(l); !bytes.Equal(again, b) || e != api.OK {
		t.Errorf("P6.3: %x is written as %x, %d", b, again, e)
	}
	return true
}

// All contents of up to five bytes, of some bytes, and all of two bytes.
func TestP6_3ReadIsWrittenShort(t *testing.T) {
	some := []byte{0, 1, 2, 6, 7, 8, 28, 30, 3, 0x40}
	var walk func(b []byte)
	count := 0
	walk = func(b []byte) {
		if holds(t, b) {
			count++
		}
		if len(b) < 5 {
			for _, x := range some {
				walk(append(slices.Clone(b), x))
			}
		}
	}
	walk(nil)
	if count < 3000 {
		t.Errorf("P6.3: only %d contents", count)
	}
	for i := range 1 << 16 {
		holds(t, []byte{byte(i >> 8), byte(i)})
	}
}

// number is one of whatever size.
func number(r *rand.Rand) int {
	return r.IntN(1 << (1 + r.IntN(62)))
}

// spans are right ones, at most 32.
func spans(r *rand.Rand) (l []frame.Span) {
	n := 1 + r.IntN(32)
	if r.IntN(2) == 0 {
		n = 1 + r.IntN(3)
	}
	top := number(r)
	for range n {
		many := number(r)
		if r.IntN(4) > 0 {
			many %= 8
		}
		if top < many {
			break
		}
		l = append(l, frame.Span{From: top - many, To: top})
		top -= many + 2 + r.IntN(100)
	}
	if len(l) == 0 {
		l = []frame.Span{{From: 0, To: top}}
	}
	return l
}

// random are right frames that may stand one behind the other.
func random(r *rand.Rand) (l []frame.Frame) {
	for range 1 + r.IntN(6) {
		switch r.IntN(8) {
		case 0:
			if len(l) == 0 || l[len(l)-1].Kind != 0 {
				l = append(l, padding(1+r.IntN(20)))
			}
		case 1:
			l = append(l, ping)
		case 2:
			l = append(l, frame.Frame{Kind: 2, Spans: spans(r)})
		case 3:
			f := crypto(r.IntN(1<<20+1), 1+r.IntN(100))
			for i := range f.Data {
				f.Data[i] = byte(r.Uint32())
			}
			l = append(l, f)
		case 4:
			l = append(l, token(api.Term(1+r.IntN(65536))))
		case 5:
			l = append(l, data(number(r), api.Term(1+r.IntN(65536))))
		case 6:
			l = append(l, closing(number(r)))
		case 7:
			l = append(l, done)
		}
	}
	return l
}

func TestP6_3WrittenIsRead(t *testing.T) {
	r := rand.New(rand.NewPCG(6, 3))
	long := 0
	for range 50000 {
		l := random(r)
		b, e := frame.Write(l)
		if e == api.ErrLong {
			long++
			continue
		}
		if len(l) == 0 {
			continue
		}
		if e != api.OK {
			t.Fatalf("P6.3: %v: %d", l, e)
		}
		reads(t, string(b), api.OK, l...)
		holds(t, b)
	}
	if long > 25000 {
		t.Errorf("P6.3: %d are too long", long)
	}
}

// What is read of contents that are changed a little is what the document says.
func TestP6_3ChangedIsReadOrNot(t *testing.T) {
	r := rand.New(rand.NewPCG(6, 4))
	var counts [2]int
	for range 100000 {
		b, _ := frame.Write(random(r))
		if len(b) == 0 {
			continue
		}
		for range 1 + r.IntN(2) {
			switch i := r.IntN(len(b)); r.IntN(4) {
			case 0:
				b[i] = byte(r.Uint32())
			case 1:
				b[i] ^= 1 << r.IntN(8)
			case 2:
				b = slices.Delete(b, i, i+1)
			default:
				b = slices.Insert(b, i, []byte{0, 1, 0x40, 0x80, 0xff}[r.IntN(5)])
			}
			if len(b) == 0 || len(b) > 1200 {
				break
			}
		}
		if len(b) > 1200 {
			continue
		}
		if holds(t, b) {
			counts[1]++
		} else {
			counts[0]++
		}
	}
	if counts[0] < 10000 || counts[1] < 10000 {
		t.Errorf("P6.3: %v are none, and are contents", counts)
	}
}

func TestR4ArgumentsStay(t *testing.T) {
	d := append([]byte("data"), "....."...)
	s := []frame.Span{{From: 7, To: 7}, {From: 3, To: 5}, {From: -1, To: -1}}
	l := []frame.Frame{{Kind: 6, Data: d[:4]}, {Kind: 2, Spans: s[:2]}, done, {Kind: 99}}
	for _, f := range l {
		frame.Right(f)
	}
	b, _ := frame.Write(l[:3])
	if string(d) != "data....." || s[0].From != 7 || s[1].To != 5 || s[2].From != -1 || len(l[0].Data) != 4 || len(l[1].Spans) != 2 || l[3].Kind != 99 {
		t.Errorf("R4: Right or Write changed %v", l)
	}
	room := append(b, 0xee, 0xee)[:len(b)]
	before := slices.Clone(room[:len(b)+2])
	frame.Read(room)
	if !bytes.Equal(before, room[:len(b)+2]) {
		t.Errorf("R4: Read changed %x", room)
	}
}

func TestR4AnswersAreNew(t *testing.T) {
	in := []frame.Frame{crypto(0, 4), crypto(4, 4), ack(7, 7, 3, 5), ack(9, 9)}
	b, _ := frame.Write(in)
	l, _ := frame.Read(b)
	clear(b)
	if !slices.EqualFunc(l, in, same) {
		t.Errorf("R4: what was read is the argument's: %v", l)
	}
	if again, _ := frame.Write(in); string(again[:4]) != "\x06\x00\x04d" {
		t.Errorf("R4: what was written is kept: %x", again)
	}
	_ = append(l[0].Data, "xxxxxxxxxxxx"...)
	_ = append(l[2].Spans, slices.Repeat([]frame.Span{{From: 1, To: 1}}, 8)...)
	if !slices.EqualFunc(l, in, same) {
		t.Errorf("R4: two of what was read share memory: %v", l)
	}
	clear(l[0].Data)
	clear(l[2].Spans)
	if !same(l[1], in[1]) || !same(l[3], in[3]) {
		t.Errorf("R4: two of what was read share memory: %v", l)
	}
}
