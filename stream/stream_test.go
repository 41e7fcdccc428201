package stream_test

import (
	"bytes"
	"math"
	"math/rand/v2"
	"slices"
	"strings"
	"testing"

	"shibboleth/api"
	"shibboleth/stream"
)

// puts holds what Put tells.
func puts(t *testing.T, s *stream.Stream, at int, b string, want api.Errno) {
	t.Helper()
	if e := s.Put(at, []byte(b)); e != want {
		t.Errorf("P13.1: %d bytes at %d, behind %d: %d, not %d", len(b), at, s.Taken(), e, want)
	}
}

// next holds what Next tells, and Taken behind it.
func next(t *testing.T, s *stream.Stream, want string, e api.Errno) {
	t.Helper()
	taken := s.Taken()
	m, got := s.Next()
	if string(m) != want || got != e {
		t.Errorf("P13.1: behind %d: %.100x, %d, not %.100x, %d", taken, m, got, want, e)
	}
	if n := s.Taken(); n != taken+len(want) {
		t.Errorf("P13.1: %d are taken behind %d and %d", n, taken, len(want))
	}
}

// message is one of a kind and n bytes of its body, in the document's words.
func message(kind byte, n int) string {
	b := []byte{kind, 0, byte(n / 256), byte(n % 256)}
	for i := range n {
		b = append(b, byte(i)*3+kind)
	}
	return string(b)
}

// behind is a stream that has taken n bytes, which are at least 4.
func behind(t *testing.T, n int) *stream.Stream {
	t.Helper()
	s := &stream.Stream{}
	for s.Taken() < n {
		left := n - s.Taken()
		body := min(left-4, 2000)
		if rest := left - 4 - body; rest > 0 && rest < 4 {
			body -= 4
		}
		m := message(9, body)
		puts(t, s, s.Taken(), m, api.OK)
		next(t, s, m, api.OK)
		if t.Failed() {
			t.FailNow() // it may never take so many
		}
	}
	return s
}

func TestP13_1Example(t *testing.T) {
	s := &stream.Stream{}
	puts(t, s, 1, "\x00\x00\x01", api.OK)
	puts(t, s, 0, "\x05", api.OK)
	next(t, s, "", api.ErrShort)
	puts(t, s, 4, "\x09", api.OK)
	next(t, s, "\x05\x00\x00\x01\x09", api.OK)
	next(t, s, "", api.ErrShort)
}

func TestP13_1PutOfPlaces(t *testing.T) {
	for at, may := range map[int]bool{math.MinInt: false, -4097: false, -2: false, -1: false, 0: true, 1: true, 4096: true, 4097: true, 1<<30 - 1: true, 1 << 30: true, 1<<30 + 1: false, 1 << 32: false, 1 << 62: false, math.MaxInt: false} {
		want := api.OK
		if !may {
			want = api.ErrArg
		}
		for _, b := range [][]byte{nil, {}} {
			// Without a byte none stands too far behind.
			if e := (&stream.Stream{}).Put(at, b); e != want {
				t.Errorf("P13.1: nothing at %d: %d, not %d", at, e, want)
			}
		}
		if may && at >= 4096 {
			want = api.ErrLong
		}
		s := &stream.Stream{}
		puts(t, s, at, "\x05", want)
		next(t, s, "", api.ErrShort)
	}
	// A place that may not be counts ahead of too many bytes, and of wrong ones.
	s := &stream.Stream{}
	puts(t, s, 0, "\x05", api.OK)
	puts(t, s, -1, strings.Repeat("\x07", 5000), api.ErrArg)
	puts(t, s, -1, "\x06\x06", api.ErrArg)
	puts(t, s, 1<<30+1, "\x06", api.ErrArg)
	var value stream.Stream
	if e := value.Put(0, []byte(message(1, 2))); e != api.OK || value.Taken() != 0 {
		t.Errorf("P13.1: a zero value: %d", e)
	}
}

func TestP13_1PutTooFar(t *testing.T) {
	for _, taken := range []int{0, 4, 5, 100, 4095, 4096, 4097, 10000} {
		stands := func() *stream.Stream {
			if taken == 0 {
				return &stream.Stream{}
			}
			return behind(t, taken)
		}
		// A byte that stands so far behind what was taken.
		for far, want := range map[int]api.Errno{0: api.OK, 1: api.OK, 4094: api.OK, 4095: api.OK, 4096: api.ErrLong, 4097: api.ErrLong, 1 << 20: api.ErrLong} {
			puts(t, stands(), taken+far, "\x01", want)
			for _, n := range []int{2, 3, 100, 4000} {
				if from := taken + far - n + 1; from >= 0 {
					puts(t, stands(), from, strings.Repeat("\x01", n), want)
				}
			}
			puts(t, stands(), 0, strings.Repeat("\x01", taken+far+1), want)
			puts(t, stands(), taken+far, "", api.OK)
		}
		puts(t, stands(), taken+4095, "\x01\x02", api.ErrLong)
	}
	// Too many bytes count ahead of wrong ones, and none of them is held.
	s := &stream.Stream{}
	puts(t, s, 0, "\x05", api.OK)
	puts(t, s, 0, "\x06"+strings.Repeat("\x01", 4096), api.ErrLong)
	puts(t, s, 1, strings.Repeat("\x01", 4096), api.ErrLong)
	puts(t, s, 1, "\x00\x00\x00", api.OK)
	next(t, s, "\x05\x00\x00\x00", api.OK)
	puts(t, s, 4096, "\x01", api.OK)
}

// A piece stands at each place beside, behind and over another one; each of its bytes is right, or one of them is not.
func TestP13_1PutOverlaps(t *testing.T) {
	all := message(7, 28)
	count := 0
	for from := range len(all) {
		for to := from + 1; to <= len(all); to++ {
			s := &stream.Stream{}
			puts(t, s, 10, all[10:14], api.OK)
			puts(t, s, 18, all[18:22], api.OK)
			for i := from; i < to; i++ {
				wrong := []byte(all[from:to])
				wrong[i-from] ^= 1
				held := i >= 10 && i < 14 || i >= 18 && i < 22
				if held {
					puts(t, s, from, string(wrong), api.ErrProto)
					count++
				}
			}
			puts(t, s, from, all[from:to], api.OK)
			puts(t, s, from, all[from:to], api.OK)
			// What is not there yet is what was asked for alone; what was wrong has left nothing.
			puts(t, s, 14, all[14:18], api.OK)
			puts(t, s, 22, all[22:], api.OK)
			if from > 0 {
				next(t, s, "", api.ErrShort)
			}
			puts(t, s, 0, all[:10], api.OK)
			next(t, s, all, api.OK)
			next(t, s, "", api.ErrShort)
		}
	}
	if count < 1000 {
		t.Errorf("P13.1: only %d overlap", count)
	}
}

// What is held beside a wrong byte is not held, be it ahead of it or behind it.
func TestP13_1PutThatFailsHoldsNothing(t *testing.T) {
	s := &stream.Stream{}
	puts(t, s, 4, "\x01", api.OK)
	puts(t, s, 0, "\x05\x00\x00\x03\x02\x03\x04", api.ErrProto)
	next(t, s, "", api.ErrShort)
	for i, x := range "\x06\x00\x00\x04" {
		puts(t, s, i, string(x), api.OK)
	}
	puts(t, s, 5, "\x07\x08\x09", api.OK)
	next(t, s, "\x06\x00\x00\x04\x01\x07\x08\x09", api.OK)
}

func TestP13_1PutOfWhatWasTaken(t *testing.T) {
	s := &stream.Stream{}
	one, two := message(1, 6), message(2, 3)
	puts(t, s, 0, one+two[:2], api.OK)
	next(t, s, one, api.OK)
	// The same bytes, others, and ones that reach up to what is held.
	puts(t, s, 0, one, api.OK)
	puts(t, s, 0, strings.Repeat("\xff", 10), api.OK)
	puts(t, s, 9, "\xff", api.OK)
	puts(t, s, 3, "", api.OK)
	puts(t, s, 0, strings.Repeat("\xff", 10)+two[:1], api.OK)
	puts(t, s, 9, "\xff"+two[:3], api.OK)
	puts(t, s, 5, one[5:]+two[:2]+"\x01", api.ErrProto)
	puts(t, s, 0, one+"\x03", api.ErrProto)
	next(t, s, "", api.ErrShort)
	puts(t, s, 2, one[2:]+two, api.OK)
	next(t, s, two, api.OK)
	puts(t, s, 0, one+two, api.OK)
	puts(t, s, 16, "\xff", api.OK)
	next(t, s, "", api.ErrShort)
	if n := s.Taken(); n != 17 {
		t.Errorf("P13.1: %d are taken", n)
	}
}

func TestP13_1NextCutAtEachByte(t *testing.T) {
	for _, n := range []int{0, 1, 2, 255, 256, 1999, 2000} {
		all := message(3, n)
		for cut := range len(all) {
			s := &stream.Stream{}
			puts(t, s, 0, all[:cut], api.OK)
			next(t, s, "", api.ErrShort)
			puts(t, s, cut, all[cut:], api.OK)
			next(t, s, all, api.OK)
			next(t, s, "", api.ErrShort)
		}
		// A gap of one byte.
		for gap := range len(all) {
			s := &stream.Stream{}
			puts(t, s, gap+1, all[gap+1:], api.OK)
			puts(t, s, 0, all[:gap], api.OK)
			next(t, s, "", api.ErrShort)
			puts(t, s, gap, all[gap:gap+1], api.OK)
			next(t, s, all, api.OK)
		}
	}
}

func TestP13_1NextOfTooLong(t *testing.T) {
	for n, want := range map[int]api.Errno{2000: api.ErrShort, 2001: api.ErrLong, 2048: api.ErrLong, 1<<16 - 1: api.ErrLong, 1 << 16: api.ErrLong, 1<<16 + 1: api.ErrLong, 1 << 23: api.ErrLong, 1<<24 - 1: api.ErrLong} {
		head := string([]byte{1, byte(n >> 16), byte(n >> 8), byte(n)})
		for cut := range len(head) {
			s := &stream.Stream{}
			puts(t, s, cut+1, head[cut+1:], api.OK)
			puts(t, s, 0, head[:cut], api.OK)
			next(t, s, "", api.ErrShort) // one of the first four is not there
			puts(t, s, cut, head[cut:cut+1], api.OK)
			next(t, s, "", want)
			puts(t, s, 4, strings.Repeat("\x01", 1999), api.OK)
			next(t, s, "", want)
			puts(t, s, 2003, strings.Repeat("\x01", 4096-2003), api.OK)
			if want == api.ErrLong {
				next(t, s, "", want)
				next(t, s, "", want)
			} else {
				next(t, s, head+strings.Repeat("\x01", 2000), api.OK)
			}
		}
	}
	// Behind a message, too.
	s := &stream.Stream{}
	puts(t, s, 0, message(1, 5)+"\x01\x00\x07\xd1\x05", api.OK)
	next(t, s, message(1, 5), api.OK)
	next(t, s, "", api.ErrLong)
}

func TestP13_1NextOfSeveral(t *testing.T) {
	s := &stream.Stream{}
	all := []string{message(1, 0), message(255, 3), message(0, 0), message(11, 2000), message(0, 1), message(20, 2000)}
	puts(t, s, 0, strings.Join(all, "")+"\x05\x00", api.OK)
	for _, m := range all {
		next(t, s, m, api.OK)
	}
	next(t, s, "", api.ErrShort)
	puts(t, s, s.Taken()+2, "\x00\x00", api.OK)
	next(t, s, "\x05\x00\x00\x00", api.OK)
	next(t, s, "", api.ErrShort)
}

// Up to the greatest place at which a piece may stand, and behind it.
func TestP13_1PutAtTheGreatestPlace(t *testing.T) {
	s := &stream.Stream{}
	m := []byte(message(1, 1500))
	for s.Taken() < 1<<30-2000 {
		if s.Put(s.Taken(), m) != api.OK {
			t.Fatalf("P13.1: not put at %d", s.Taken())
		}
		if b, e := s.Next(); len(b) != len(m) || e != api.OK {
			t.Fatalf("P13.1: not taken behind %d: %d", s.Taken(), e)
		}
	}
	from := s.Taken()
	last := message(2, 2000)
	puts(t, s, 1<<30+1, "\x00", api.ErrArg)
	puts(t, s, 1<<30, last[1<<30-from:], api.OK)
	puts(t, s, 1<<30, "", api.OK)
	puts(t, s, from, last[:1<<30-from], api.OK)
	next(t, s, last, api.OK)
	// A piece that begins there may reach behind it.
	over := s.Taken() - 1<<30
	puts(t, s, 1<<30, strings.Repeat("\x00", over+4097), api.ErrLong)
	puts(t, s, 1<<30, strings.Repeat("\x00", over+4096), api.OK)
	next(t, s, "\x00\x00\x00\x00", api.OK)
	puts(t, s, s.Taken(), "\x00", api.ErrArg)
}

func TestP13_1NoStream(t *testing.T) {
	var s *stream.Stream
	for _, at := range []int{math.MinInt, -1, 0, 1, 4096, 1 << 30, 1<<30 + 1, math.MaxInt} {
		for _, b := range [][]byte{nil, {}, {1}, []byte(message(1, 2)), make([]byte, 5000)} {
			if e := s.Put(at, b); e != api.ErrArg {
				t.Errorf("P13.1: no stream takes %d bytes at %d: %d", len(b), at, e)
			}
		}
	}
	if m, e := s.Next(); len(m) != 0 || e != api.ErrArg || s.Taken() != 0 {
		t.Errorf("P13.1: of no stream: %x, %d, %d", m, e, s.Taken())
	}
}

// model is a stream that holds byte by byte, in the document's words.
type model struct {
	taken int
	held  map[int]byte
}

func (s *model) put(at int, b []byte) api.Errno {
	if at < 0 || at > 1<<30 {
		return api.ErrArg
	}
	for i := range b {
		if at+i-s.taken >= 4096 {
			return api.ErrLong
		}
	}
	for i, x := range b {
		if old, is := s.held[at+i]; is && old != x {
			return api.ErrProto
		}
	}
	for i, x := range b {
		if at+i >= s.taken {
			s.held[at+i] = x
		}
	}
	return api.OK
}

func (s *model) next() ([]byte, api.Errno) {
	var b []byte
	for n := 4; len(b) < n; {
		x, is := s.held[s.taken+len(b)]
		if !is {
			return nil, api.ErrShort
		}
		b = append(b, x)
		if len(b) == 4 {
			n += int(b[1])*65536 + int(b[2])*256 + int(b[3])
		}
		if n > 2004 {
			return nil, api.ErrLong
		}
	}
	for range b {
		delete(s.held, s.taken)
		s.taken++
	}
	return b, api.OK
}

// sent is many messages, one behind the other, at times one that is too long.
func sent(r *rand.Rand, long bool) (b []byte) {
	for len(b) < 12000 {
		n := r.IntN(12)
		switch {
		case r.IntN(10) == 0:
			n = r.IntN(2001)
		case long && r.IntN(200) == 0:
			n = 2001 + r.IntN(100)
		}
		b = append(b, message(byte(r.Uint32()), n)...)
	}
	return b
}

// Whatever is put, a stream tells what the model tells.
func TestP13_1AsTheModel(t *testing.T) {
	r := rand.New(rand.NewPCG(13, 1))
	counts := map[api.Errno]int{}
	took := map[api.Errno]int{}
	for round := range 120 {
		all := sent(r, round%2 == 0)
		s, other := &stream.Stream{}, &model{held: map[int]byte{}}
		for range 1500 {
			at := max(0, min(len(all), other.taken+r.IntN(300)-100))
			n := r.IntN(40)
			switch r.IntN(30) {
			case 0:
				n = r.IntN(4200)
			case 1:
				at = other.taken + 4096 - r.IntN(60)
			case 2:
				at = -1 - r.IntN(10)
			case 3:
				at = other.taken
			}
			b := bytes.Clone(all[max(0, min(at, len(all))):min(max(0, at+n), len(all))])
			if len(b) > 0 && r.IntN(40) == 0 {
				b[r.IntN(len(b))] ^= 1 << r.IntN(8)
			}
			want := other.put(at, b)
			counts[want]++
			if e := s.Put(at, b); e != want {
				t.Fatalf("P13.1: round %d: %d bytes at %d, behind %d: %d, not %d", round, len(b), at, other.taken, e, want)
			}
			for {
				want, e := other.next()
				m, got := s.Next()
				if !bytes.Equal(m, want) || got != e || s.Taken() != other.taken {
					t.Fatalf("P13.1: round %d: %x, %d, not %x, %d; %d are taken, not %d", round, m, got, want, e, s.Taken(), other.taken)
				}
				took[e]++
				if e != api.OK {
					break
				}
			}
		}
	}
	for _, e := range []api.Errno{api.OK, api.ErrArg, api.ErrLong, api.ErrProto} {
		if counts[e] < 500 {
			t.Errorf("P13.1: Put told only %d times %d", counts[e], e)
		}
	}
	for _, e := range []api.Errno{api.OK, api.ErrShort, api.ErrLong} {
		if took[e] < 500 {
			t.Errorf("P13.1: Next told only %d times %d", took[e], e)
		}
	}
}

func TestP13_2Message(t *testing.T) {
	for kind, may := range map[int]bool{math.MinInt: false, -256: false, -1: false, 0: true, 1: true, 128: true, 255: true, 256: false, 257: false, 300: false, 1 << 32: false, math.MaxInt: false} {
		for n, fits := range map[int]bool{0: true, 1: true, 255: true, 256: true, 1999: true, 2000: true, 2001: false, 2048: false, 1 << 16: false, 1 << 24: false} {
			body := make([]byte, n)
			if fits {
				body = []byte(message(byte(kind), n)[4:])
			}
			want := ""
			if may && fits {
				want = message(byte(kind), n)
			}
			if b := stream.Message(kind, body); string(b) != want {
				t.Errorf("P13.2: %d and %d bytes: %.100x", kind, n, b)
			}
		}
	}
	if b := stream.Message(5, nil); string(b) != "\x05\x00\x00\x00" {
		t.Errorf("P13.2: nothing: %x", b)
	}
	if b := stream.Message(5, []byte{9}); string(b) != "\x05\x00\x00\x01\x09" {
		t.Errorf("P13.2: a byte: %x", b)
	}
}

// messages holds what Messages tells.
func messages(t *testing.T, b string, ok bool, want ...string) {
	t.Helper()
	l, got := stream.Messages([]byte(b))
	same := func(m []byte, w string) bool { return string(m) == w }
	if got != ok || !slices.EqualFunc(l, want, same) {
		t.Errorf("P13.2: %.100x: %.100x, %t, not %.100x, %t", b, l, got, want, ok)
	}
}

func TestP13_2Messages(t *testing.T) {
	messages(t, "", true)
	if l, ok := stream.Messages(nil); len(l) != 0 || !ok {
		t.Errorf("P13.2: nil: %x, %t", l, ok)
	}
	one, two, most := message(0, 0), message(255, 7), message(20, 2000)
	messages(t, one, true, one)
	messages(t, most, true, most)
	messages(t, one+two, true, one, two)
	messages(t, two+one+one, true, two, one, one)
	messages(t, most+one+most+two, true, most, one, most, two)
	many := slices.Repeat([]string{two}, 1000)
	messages(t, strings.Join(many, ""), true, many...)
	all := one + two + one
	for n := range len(all) {
		switch n {
		case 0:
			messages(t, "", true)
		case len(one):
			messages(t, all[:n], true, one)
		case len(one) + len(two):
			messages(t, all[:n], true, one, two)
		default:
			messages(t, all[:n], false)
		}
		messages(t, all+all[:1+n%3], false)
	}
	for n := range len(most) - 1 {
		messages(t, one+most[:n+1], false)
	}
}

func TestP13_2MessagesTooLong(t *testing.T) {
	one := message(4, 3)
	for _, n := range []int{2001, 2048, 1<<16 - 1, 1 << 16, 1<<16 + 3, 1 << 20} {
		b := string([]byte{4, byte(n >> 16), byte(n >> 8), byte(n)}) + strings.Repeat("\x00", n)
		messages(t, b, false)
		messages(t, one+b, false)
		messages(t, b+one, false)
	}
	messages(t, "\x04\xff\xff\xff", false)
}

// All bytes of some kinds, up to nine of them, are messages just if the model takes all of them.
func TestP13_2MessagesAsTheModel(t *testing.T) {
	some := []byte{0, 1, 2, 8}
	counts := map[bool]int{}
	var walk func(b []byte)
	walk = func(b []byte) {
		s := &model{held: map[int]byte{}}
		s.put(0, b)
		var want []string
		for {
			m, e := s.next()
			if e != api.OK {
				break
			}
			want = append(want, string(m))
		}
		ok := s.taken == len(b)
		if !ok {
			want = nil
		}
		counts[ok]++
		messages(t, string(b), ok, want...)
		if len(b) < 9 {
			for _, x := range some {
				walk(append(slices.Clone(b), x))
			}
		}
	}
	walk(nil)
	if counts[true] < 100 || counts[false] < 10000 {
		t.Errorf("P13.2: %v", counts)
	}
}

// pieces are so cut that each has a place, and come in an order of their own, some of them twice.
func pieces(r *rand.Rand, from, to int) (l [][2]int) {
	for at := from; at < to; {
		end := min(to, at+1+r.IntN(1<<r.IntN(11)))
		for range 1 + r.IntN(2) {
			l = append(l, [2]int{max(0, at-r.IntN(50)), end})
		}
		at = end
	}
	r.Shuffle(len(l), func(i, j int) { l[i], l[j] = l[j], l[i] })
	return l
}

func TestP13_3WhateverThePiecesAre(t *testing.T) {
	r := rand.New(rand.NewPCG(13, 3))
	for round := range 300 {
		all := sent(r, false)
		want, ok := stream.Messages(all)
		if !ok {
			t.Fatal("P13.3: what is sent is no messages")
		}
		s := &stream.Stream{}
		var got [][]byte
		take := func() {
			for m, e := s.Next(); e == api.OK; m, e = s.Next() {
				got = append(got, m)
			}
		}
		for from := 0; from < len(all); {
			to := min(len(all), s.Taken()+4096)
			for _, p := range pieces(r, from, to) {
				if e := s.Put(p[0], all[p[0]:p[1]]); e != api.OK {
					t.Fatalf("P13.3: round %d: from %d to %d, behind %d: %d", round, p[0], p[1], s.Taken(), e)
				}
				if round%2 == 0 {
					take()
				}
			}
			take()
			from = to
		}
		if !slices.EqualFunc(got, want, bytes.Equal) || s.Taken() != len(all) {
			t.Fatalf("P13.3: round %d: %d messages of %d, %d bytes of %d", round, len(got), len(want), s.Taken(), len(all))
		}
	}
}

// Each byte alone, the last one first, and each other one first.
func TestP13_3ByteByByte(t *testing.T) {
	all := message(1, 2000) + message(2, 0) + message(3, 2000) + message(4, 80)
	orders := [2][]int{}
	for i := range len(all) {
		orders[0] = append(orders[0], len(all)-1-i)
		orders[1] = append(orders[1], (2*i+i/(len(all)/2))%len(all))
	}
	for _, order := range orders {
		s := &stream.Stream{}
		for _, at := range order {
			puts(t, s, at, all[at:at+1], api.OK)
		}
		next(t, s, message(1, 2000), api.OK)
		next(t, s, message(2, 0), api.OK)
		next(t, s, message(3, 2000), api.OK)
		next(t, s, message(4, 80), api.OK)
		next(t, s, "", api.ErrShort)
	}
}

// room is bytes with spare room behind them, filled with dots.
func room(s string) []byte {
	return append([]byte(s), "............"...)[:len(s)]
}

// untouched holds that bytes of room are as they were, and their spare room.
func untouched(t *testing.T, b []byte, was string) {
	t.Helper()
	if string(b[:len(was)+12]) != was+"............" {
		t.Errorf("R4: %x is changed: %x", was, b[:len(was)+12])
	}
}

func TestR4ArgumentsStay(t *testing.T) {
	body, two := room("body"), room(message(1, 3)+message(2, 4))
	stream.Message(1, body)
	untouched(t, body, "body")
	stream.Messages(two)
	untouched(t, two, message(1, 3)+message(2, 4))
	s := &stream.Stream{}
	first, rest := room(message(1, 3)[:5]), room(message(1, 3)[5:]+"\x07")
	s.Put(5, rest)
	s.Put(0, first)
	s.Put(4, room(message(1, 3)[4:6]))
	untouched(t, first, message(1, 3)[:5])
	untouched(t, rest, message(1, 3)[5:]+"\x07")
	// Nor is what was put in kept.
	clear(first)
	clear(rest)
	next(t, s, message(1, 3), api.OK)
	puts(t, s, 7, "\x00", api.ErrProto)
	puts(t, s, 7, "\x07\x00\x00\x00", api.OK)
	next(t, s, "\x07\x00\x00\x00", api.OK)
}

func TestR4AnswersAreNew(t *testing.T) {
	b := []byte(message(1, 3) + message(2, 4) + message(3, 0))
	l, _ := stream.Messages(b)
	clear(b)
	for i := range l {
		_ = append(l[i], "xxxxxxxx"...)
	}
	if string(slices.Concat(l...)) != message(1, 3)+message(2, 4)+message(3, 0) {
		t.Errorf("R4: %x", l)
	}
	clear(l[0])
	if string(l[1]) != message(2, 4) {
		t.Errorf("R4: two messages share memory: %x", l)
	}
	body := []byte("body")
	m := stream.Message(1, body)
	clear(m)
	if string(body) != "body" {
		t.Errorf("R4: a message shares its body's memory: %q", body)
	}
	s := &stream.Stream{}
	puts(t, s, 0, message(1, 3)+message(2, 4)+message(3, 0), api.OK)
	m, _ = s.Next()
	clear(append(m, "xxxxxxxxxxxx"...))
	clear(m)
	next(t, s, message(2, 4), api.OK)
	next(t, s, message(3, 0), api.OK)
}
