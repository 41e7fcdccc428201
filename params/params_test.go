package params_test

import (
	"bytes"
	"math/rand/v2"
	"slices"
	"strings"
	"testing"

	"shibboleth/api"
	"shibboleth/params"
	"shibboleth/varint"
)

const most = 1<<62 - 1 // the greatest number of layer 1

// name is a name of n bytes.
func name(n int) []byte {
	return []byte(strings.Repeat("n", n))
}

// full are right params that have all that there is.
func full() params.Params {
	return params.Params{
		Idle: 5, Data: 64,
		HasGoal: true, HasOwn: true, HasRetry: true,
		Goal: []byte("goal"), Own: []byte("own"), Retry: []byte("r"),
		Chosen: 2, Versions: []int{1, 2, 0x01020304},
	}
}

// bare are right params that have no more than they must.
func bare() params.Params {
	return params.Params{Chosen: 1}
}

// counted is a list of the versions from one to another one.
func counted(from, to int) (l []int) {
	for v := from; v <= to; v++ {
		l = append(l, v)
	}
	return l
}

// right holds what Right tells, and whether Write writes.
func right(t *testing.T, want bool, what string, p params.Params) {
	t.Helper()
	if params.Right(p) != want {
		t.Errorf("P7.1: right is %t of %s: %+v", !want, what, p)
	}
	if b := params.Write(p); len(b) > 0 != want {
		t.Errorf("P7.1: of %s: %+v is written as %x", what, p, b)
	}
}

func TestP7_1RightOfNumbers(t *testing.T) {
	for n, want := range map[int]bool{-1 << 63: false, -1 << 62: false, -1: false, 0: true, 1: true, 63: true, 64: true, 1 << 40: true, most: true, most + 1: false, 1<<63 - 1: false} {
		for _, p := range []params.Params{full(), bare()} {
			idle, data := p, p
			idle.Idle, data.Data = n, n
			right(t, want, "an idle time", idle)
			right(t, want, "a data limit", data)
		}
	}
	right(t, false, "the zero value", params.Params{})
}

func TestP7_1RightOfNames(t *testing.T) {
	for n, may := range map[int]bool{0: true, 1: true, 8: true, 19: true, 20: true, 21: false, 64: false, 256: false, 276: false} {
		for _, p := range []params.Params{full(), bare()} {
			for _, has := range []bool{false, true} {
				want := may && (has || n == 0)
				goal, own, retry := p, p, p
				goal.HasGoal, goal.Goal = has, name(n)
				own.HasOwn, own.Own = has, name(n)
				retry.HasRetry, retry.Retry = has, name(n)
				right(t, want, "a goal", goal)
				right(t, want, "an own name", own)
				right(t, want, "a Retry's name", retry)
			}
		}
	}
	p := bare()
	p.HasGoal, p.HasOwn, p.HasRetry = true, true, true
	right(t, true, "names that are nil and there", p)
}

func TestP7_1RightOfVersions(t *testing.T) {
	for v, want := range map[int]bool{-1 << 63: false, -1: false, 0: false, 1: true, 2: true, 1<<32 - 1: true, 1 << 32: false, 1<<32 + 1: false, 1<<63 - 1: false} {
		p := full()
		p.Chosen = v
		right(t, want, "a chosen version", p)
		for _, l := range [][]int{{v}, {v, 7}, {7, v}, append(counted(10, 24), v)} {
			p := bare()
			p.Versions = l
			right(t, want, "a list", p)
		}
	}
	for n, want := range map[int]bool{0: true, 1: true, 2: true, 15: true, 16: true, 17: false, 18: false, 300: false} {
		p := full()
		p.Versions = counted(1, n)
		right(t, want, "a list's length", p)
	}
	for _, l := range [][]int{{2, 2}, {1, 2, 1}, {1, 2, 3, 3}, append(counted(1, 15), 1), append(counted(1, 15), 15), make([]int, 17)} {
		p := full()
		p.Versions = l
		right(t, false, "two that are alike", p)
	}
	p := full()
	p.Chosen, p.Versions = 9, []int{1}
	right(t, true, "a chosen version that is not in the list", p)
	p.Versions = []int{}
	right(t, true, "a list that is not nil and empty", p)
}

func TestP7_1WriteTellsBytes(t *testing.T) {
	eight := "\x08\xff\xff\xff\xff\xff\xff\xff\xff"
	sixteen := ""
	for i := range 16 {
		sixteen += "\x00\x00\x00" + string(rune(i+1))
	}
	for _, x := range []struct {
		p    params.Params
		want string
	}{
		{params.Params{Idle: 5, Data: 6, Chosen: 1, Versions: []int{1}}, "\x01\x01\x05\x04\x01\x06\x11\x08\x00\x00\x00\x01\x00\x00\x00\x01"},
		{bare(), "\x01\x01\x00\x04\x01\x00\x11\x04\x00\x00\x00\x01"},
		{full(), "\x00\x04goal\x01\x01\x05\x04\x02\x40\x40\x0f\x03own\x10\x01r\x11\x10\x00\x00\x00\x02\x00\x00\x00\x01\x00\x00\x00\x02\x01\x02\x03\x04"},
		{params.Params{Idle: most, Data: most, Chosen: 1<<32 - 1}, "\x01" + eight + "\x04" + eight + "\x11\x04\xff\xff\xff\xff"},
		{params.Params{Idle: 1 << 14, Data: 1 << 30, Chosen: 1}, "\x01\x04\x80\x00\x40\x00\x04\x08\xc0\x00\x00\x00\x40\x00\x00\x00\x11\x04\x00\x00\x00\x01"},
		{params.Params{HasGoal: true, HasOwn: true, HasRetry: true, Chosen: 1}, "\x00\x00\x01\x01\x00\x04\x01\x00\x0f\x00\x10\x00\x11\x04\x00\x00\x00\x01"},
		{params.Params{HasRetry: true, Retry: name(20), Chosen: 1}, "\x01\x01\x00\x04\x01\x00\x10\x14" + string(name(20)) + "\x11\x04\x00\x00\x00\x01"},
		{params.Params{Chosen: 1, Versions: counted(1, 16)}, "\x01\x01\x00\x04\x01\x00\x11\x40\x44\x00\x00\x00\x01" + sixteen},
		{params.Params{Chosen: 1, Versions: counted(1, 14)}, "\x01\x01\x00\x04\x01\x00\x11\x3c\x00\x00\x00\x01" + sixteen[:56]},
		{params.Params{Chosen: 3, Versions: []int{258, 1, 1 << 24}}, "\x01\x01\x00\x04\x01\x00\x11\x10\x00\x00\x00\x03\x00\x00\x01\x02\x00\x00\x00\x01\x01\x00\x00\x00"},
	} {
		if b := params.Write(x.p); string(b) != x.want {
			t.Errorf("P7.1: %+v: %x, not %x", x.p, b, x.want)
		}
		reads(t, x.want, api.OK, x.p)
	}
}

// reads holds what Read tells against what it has to tell.
func reads(t *testing.T, b string, e api.Errno, want params.Params) {
	t.Helper()
	p, gotE := params.Read([]byte(b))
	if gotE != e || !alike(p, want) {
		t.Errorf("P7.1: %.100x: %+v, %d, not %+v, %d", b, p, gotE, want, e)
	}
}

// alike: are both the same ones, asked by each field?
func alike(p, q params.Params) bool {
	return p.Idle == q.Idle && p.Data == q.Data && p.Chosen == q.Chosen &&
		p.HasGoal == q.HasGoal && string(p.Goal) == string(q.Goal) &&
		p.HasOwn == q.HasOwn && string(p.Own) == string(q.Own) &&
		p.HasRetry == q.HasRetry && string(p.Retry) == string(q.Retry) &&
		slices.Equal(p.Versions, q.Versions)
}

// none holds that bytes are no params.
func none(t *testing.T, b string) {
	t.Helper()
	reads(t, b, api.ErrForm, params.Params{})
}

// parts are the fields of full ones, rising.
func parts() []string {
	return []string{"\x00\x04goal", "\x01\x01\x05", "\x04\x02\x40\x40", "\x0f\x03own", "\x10\x01r", "\x11\x10\x00\x00\x00\x02\x00\x00\x00\x01\x00\x00\x00\x02\x01\x02\x03\x04"}
}

func TestP7_1ReadCutShortAndLonger(t *testing.T) {
	none(t, "")
	if p, e := params.Read(nil); e != api.ErrForm || !alike(p, params.Params{}) {
		t.Errorf("P7.1: nil: %+v, %d", p, e)
	}
	for _, p := range []params.Params{full(), bare()} {
		b := string(params.Write(p))
		for i := range len(b) {
			none(t, b[:i])
			if front := b[:i+1]; front != parts()[0] { // without its goal it is params still
				none(t, b[i+1:])
			}
		}
		for x := range 256 {
			none(t, b+string([]byte{byte(x)}))
			none(t, b+string([]byte{byte(x), 0}))
		}
		none(t, b+b)
		none(t, b+strings.Repeat("\x00", 100))
	}
}

func TestP7_1ReadOfTooMany(t *testing.T) {
	b := string(params.Write(full()))
	for _, n := range []int{500, 501, 502, 1 << 16} {
		e := api.ErrForm
		if n > 500 {
			e = api.ErrLong
		}
		for _, b := range []string{"", b, b[:20], "\x01\x41\xf1\x05", "\x12"} {
			reads(t, b+strings.Repeat("\x00", n-len(b)), e, params.Params{})
			reads(t, strings.Repeat("\xff", n-len(b))+b, e, params.Params{})
		}
	}
}

// Fields in each order: just the one in which they rise is right.
func TestP7_1ReadOfFieldsOutOfOrder(t *testing.T) {
	all := parts()
	count := 0
	var walk func(b string, left []string)
	walk = func(b string, left []string) {
		if len(left) == 0 {
			count++
			if b != strings.Join(all, "") {
				none(t, b)
			} else {
				reads(t, b, api.OK, full())
			}
		}
		for i := range left {
			walk(b+left[i], slices.Delete(slices.Clone(left), i, i+1))
		}
	}
	walk("", all)
	if count != 720 {
		t.Errorf("P7.1: %d orders", count)
	}
}

// Fields of which some are not there: just names may be missing.
func TestP7_1ReadOfFieldsThatAreNotThere(t *testing.T) {
	for set := range 64 {
		b, p := "", full()
		for i, part := range parts() {
			if set>>i&1 == 1 {
				b += part
			}
		}
		if set&1 == 0 {
			p.HasGoal, p.Goal = false, nil
		}
		if set&8 == 0 {
			p.HasOwn, p.Own = false, nil
		}
		if set&16 == 0 {
			p.HasRetry, p.Retry = false, nil
		}
		if set&0b100110 == 0b100110 {
			reads(t, b, api.OK, p)
		} else {
			none(t, b)
		}
	}
}

func TestP7_1ReadOfFieldsTwice(t *testing.T) {
	for i := range parts() {
		all := parts()
		none(t, strings.Join(slices.Insert(all, i, all[i]), ""))
		for j := range parts() {
			all := parts()
			none(t, strings.Join(slices.Insert(all, j, all[i]), ""))
		}
		none(t, strings.Join(parts(), "")+parts()[i])
	}
	// The names, when they are empty.
	none(t, "\x00\x00\x00\x00\x01\x01\x00\x04\x01\x00\x11\x04\x00\x00\x00\x01")
	none(t, "\x01\x01\x00\x01\x01\x00\x04\x01\x00\x11\x04\x00\x00\x00\x01")
}

// A field of a number that is none, at each place.
func TestP7_1ReadOfFieldsThatAreNone(t *testing.T) {
	numbers := []int{64, 255, 256, 272, 1 << 14, 1 << 30, 1<<32 + 1, most}
	for n := range 64 {
		if !slices.Contains([]int{0, 1, 4, 15, 16, 17}, n) {
			numbers = append(numbers, n)
		}
	}
	for _, n := range numbers {
		field := varint.Append(nil, n)
		for _, body := range []string{"", "\x05", "\x00\x00\x00\x01"} {
			for i := range len(parts()) + 1 {
				none(t, strings.Join(slices.Insert(parts(), i, string(varint.Give(field, []byte(body)))), ""))
			}
		}
	}
}

func TestP7_1ReadOfWrongFields(t *testing.T) {
	// Each field, in the place of the right one.
	wrong := [][]string{
		{"\x00\x15" + string(name(21)), "\x00\x40\x04goal", "\x00\x05goal", "\x00\x03goal", "\x40\x00\x04goal", "\x00\xff\xff\xff\xff\xff\xff\xff\xffgoal"},
		{"\x01\x00", "\x01\x01\x40", "\x01\x02\x05\x05", "\x01\x02\x40\x05", "\x01\x02\x40\x3f", "\x01\x04\x80\x00\x00\x05", "\x01\x03\x40\x40\x00", "\x01\x08\xc0\x00\x00\x00\x00\x00\x00\x05", "\x01\x07\xc0\x00\x00\x00\x40\x00\x00", "\x01\x40\x01\x05", "\x40\x01\x01\x05", "\x80\x00\x00\x01\x01\x05"},
		{"\x04\x00", "\x04\x01\x40", "\x04\x02\x05\x05", "\x04\x02\x40\x05", "\x04\x04\x80\x00\x00\x05", "\x04\x03\x40\x40\x00", "\x04\x40\x01\x05", "\x40\x04\x01\x05", "\x04\x09\xff\xff\xff\xff\xff\xff\xff\xff\x00"},
		{"\x0f\x15" + string(name(21)), "\x0f\x40\x03own", "\x0f\x04own", "\x0f\x02own", "\x40\x0f\x03own", "\x0f"},
		{"\x10\x15" + string(name(21)), "\x10\x40\x01r", "\x10\x02r", "\x10\x00r", "\x40\x10\x01r", "\x10"},
		{
			"\x11\x00", "\x11\x03\x00\x00\x01", "\x11\x04\x00\x00\x00\x00", "\x11\x05\x00\x00\x00\x01\x00", "\x11\x07\x00\x00\x00\x01\x00\x00\x01", "\x11\x08\x00\x00\x00\x00\x00\x00\x00\x01",
			"\x11\x08\x00\x00\x00\x01\x00\x00\x00\x00", "\x11\x0c\x00\x00\x00\x01\x00\x00\x00\x02\x00\x00\x00\x02", "\x11\x10\x00\x00\x00\x01\x00\x00\x00\x02\x00\x00\x00\x03\x00\x00\x00\x02",
			"\x11\x40\x04\x00\x00\x00\x01", "\x40\x11\x04\x00\x00\x00\x01", "\x11\x05\x00\x00\x00\x01", "\x11\x03\x00\x00\x00\x01", "\x11", "\x11\x04",
		},
	}
	list := "\x11\x40\x48\x00\x00\x00\x01"
	for i := range 17 {
		list += "\x00\x00\x00" + string(rune(i+1))
	}
	wrong[5] = append(wrong[5], list)
	for i, fields := range wrong {
		for _, field := range fields {
			all := parts()
			all[i] = field
			none(t, strings.Join(all, ""))
		}
	}
}

func TestP7_1Same(t *testing.T) {
	changes := []func(p *params.Params){
		func(p *params.Params) { p.Idle++ },
		func(p *params.Params) { p.Data++ },
		func(p *params.Params) { p.Idle, p.Data = p.Data, p.Idle },
		func(p *params.Params) { p.HasGoal = !p.HasGoal },
		func(p *params.Params) { p.HasOwn = !p.HasOwn },
		func(p *params.Params) { p.HasRetry = !p.HasRetry },
		func(p *params.Params) { p.Goal = []byte("goam") },
		func(p *params.Params) { p.Goal = append(p.Goal, 'x') },
		func(p *params.Params) { p.Own = []byte("owm") },
		func(p *params.Params) { p.Own = append(p.Own, 0) },
		func(p *params.Params) { p.Retry = []byte("s") },
		func(p *params.Params) { p.Retry = append(p.Retry, 0) },
		func(p *params.Params) { p.Chosen++ },
		func(p *params.Params) { p.Versions = append(p.Versions, 9) },
		func(p *params.Params) { p.Versions = []int{2, 1, 0x01020304} },
		func(p *params.Params) { p.Versions = []int{1, 2, 0x01020305} },
	}
	var all []params.Params
	for _, first := range []func() params.Params{full, bare} {
		p := first()
		all = append(all, p)
		for i, change := range changes {
			q := first()
			change(&q)
			if !alike(p, q) && (params.Same(p, q) || params.Same(q, p)) {
				t.Errorf("P7.1: the change %d is not seen of %+v", i, p)
			}
			all = append(all, q)
		}
	}
	for _, p := range all {
		for _, q := range all {
			if params.Same(p, q) != alike(p, q) {
				t.Errorf("P7.1: same is %t of %+v and %+v", !alike(p, q), p, q)
			}
		}
	}
	nils, empties := params.Params{HasOwn: true, Chosen: 1}, params.Params{HasOwn: true, Goal: []byte{}, Own: []byte{}, Retry: []byte{}, Chosen: 1, Versions: []int{}}
	if !params.Same(nils, empties) || !params.Same(empties, nils) || !params.Same(params.Params{}, params.Params{}) {
		t.Error("R3: an empty list is another one than nil")
	}
}

// random are right params.
func random(r *rand.Rand) params.Params {
	p := params.Params{Idle: number(r), Data: number(r), Chosen: version(r)}
	if r.IntN(2) == 0 {
		p.HasGoal, p.Goal = true, filled(r, r.IntN(21))
	}
	if r.IntN(2) == 0 {
		p.HasOwn, p.Own = true, filled(r, r.IntN(21))
	}
	if r.IntN(2) == 0 {
		p.HasRetry, p.Retry = true, filled(r, r.IntN(21))
	}
	for range r.IntN(17) {
		if v := version(r); !slices.Contains(p.Versions, v) {
			p.Versions = append(p.Versions, v)
		}
	}
	return p
}

// number is one of layer 1, of whatever size.
func number(r *rand.Rand) int {
	return r.IntN(1 << (1 + r.IntN(62)))
}

// version is one of whatever size.
func version(r *rand.Rand) int {
	return 1 + r.IntN(1<<(1+r.IntN(32))-1)
}

// filled is n bytes, whichever.
func filled(r *rand.Rand, n int) []byte {
	b := make([]byte, n)
	for i := range b {
		b[i] = byte(r.Uint32())
	}
	return b
}

func TestP7_2WrittenIsRead(t *testing.T) {
	r := rand.New(rand.NewPCG(7, 2))
	for range 20000 {
		p := random(r)
		b := params.Write(p)
		reads(t, string(b), api.OK, p)
		if q, _ := params.Read(b); !params.Same(p, q) {
			t.Errorf("P7.2: %+v is read as %+v", p, q)
		}
	}
}

// told are the params that the document says bytes are, taken by a loop over the fields as they stand in its list; false, if they are none.
func told(b []byte) (p params.Params, ok bool) {
	ok = true
	take := func() []byte {
		part, rest, e := varint.Take(b)
		ok = ok && e == api.OK
		b = rest
		return part
	}
	alone := func(part []byte) int {
		n, size, e := varint.Read(part)
		ok = ok && e == api.OK && size == len(part)
		return n
	}
	for _, number := range []int{0, 1, 4, 15, 16, 17} {
		if len(b) == 0 || int(b[0]) != number {
			if number == 1 || number == 4 || number == 17 {
				return p, false
			}
			continue
		}
		b = b[1:]
		part := take()
		switch number {
		case 0:
			p.HasGoal, p.Goal = true, part
		case 1:
			p.Idle = alone(part)
		case 4:
			p.Data = alone(part)
		case 15:
			p.HasOwn, p.Own = true, part
		case 16:
			p.HasRetry, p.Retry = true, part
		case 17:
			if len(part)%4 != 0 || len(part) < 4 || len(part) > 68 {
				return p, false
			}
			for i := 0; i < len(part); i += 4 {
				v := int(part[i])<<24 + int(part[i+1])<<16 + int(part[i+2])<<8 + int(part[i+3])
				ok = ok && v > 0 && !slices.Contains(p.Versions, v)
				if i == 0 {
					p.Chosen = v
				} else {
					p.Versions = append(p.Versions, v)
				}
			}
		}
	}
	ok = ok && len(b) == 0
	for _, name := range [][]byte{p.Goal, p.Own, p.Retry} {
		ok = ok && len(name) <= 20
	}
	return p, ok
}

// holds holds what Read tells of bytes against what it has to tell, and P7.2; it tells whether they are params'.
func holds(t *testing.T, b []byte) bool {
	t.Helper()
	p, ok := told(b)
	if !ok {
		none(t, string(b))
		return false
	}
	reads(t, string(b), api.OK, p)
	p, _ = params.Read(b)
	if again := params.Write(p); !bytes.Equal(again, b) {
		t.Errorf("P7.2: %x is written as %x", b, again)
	}
	return true
}

// What is read of params' bytes that are changed a little is what the document says.
func TestP7_2ReadIsWritten(t *testing.T) {
	r := rand.New(rand.NewPCG(7, 3))
	var counts [2]int
	for range 200000 {
		b := params.Write(random(r))
		for range r.IntN(3) {
			if len(b) == 0 {
				break
			}
			switch i := r.IntN(len(b)); r.IntN(4) {
			case 0:
				b[i] = byte(r.Uint32())
			case 1:
				b[i] ^= 1 << r.IntN(8)
			case 2:
				b = slices.Delete(b, i, i+1)
			default:
				b = slices.Insert(b, i, []byte{0, 1, 4, 15, 16, 17, 0x40, 0xff}[r.IntN(8)])
			}
		}
		if holds(t, b) {
			counts[1]++
		} else {
			counts[0]++
		}
	}
	if counts[0] < 30000 || counts[1] < 60000 {
		t.Errorf("P7.2: %v are none, and are params", counts)
	}
}

func TestR4ArgumentsStay(t *testing.T) {
	room := func(s string) []byte { return append([]byte(s), "............"...)[:len(s)] }
	versions := []int{1, 2, -1, -1}
	p := params.Params{HasGoal: true, HasOwn: true, HasRetry: true, Goal: room("goal"), Own: room("own"), Retry: room("retry"), Chosen: 1, Versions: versions[:2]}
	was := params.Params{HasGoal: true, HasOwn: true, HasRetry: true, Goal: []byte("goal"), Own: []byte("own"), Retry: []byte("retry"), Chosen: 1, Versions: []int{1, 2}}
	params.Right(p)
	b := params.Write(p)
	params.Same(p, was)
	for _, x := range [][]byte{p.Goal, p.Own, p.Retry} {
		if string(x[len(x):len(x)+12]) != "............" {
			t.Errorf("R4: the room behind %q is %q", x, x[len(x):len(x)+12])
		}
	}
	if !alike(p, was) || versions[2] != -1 || versions[3] != -1 {
		t.Errorf("R4: %+v, %v", p, versions)
	}
	whole := room(string(b))
	params.Read(whole)
	if !bytes.Equal(whole, b) || string(whole[len(b):len(b)+12]) != "............" {
		t.Errorf("R4: Read made %x of %x", whole, b)
	}
}

func TestR4AnswersAreNew(t *testing.T) {
	b := params.Write(full())
	p, _ := params.Read(b)
	clear(b)
	if !alike(p, full()) {
		t.Errorf("R4: what was read is the argument's: %+v", p)
	}
	if again := params.Write(full()); !bytes.Equal(again, params.Write(p)) {
		t.Errorf("R4: what was written is kept: %x", again)
	}
	_ = append(p.Goal, "xxxxxxxxxxxxxxxx"...)
	_ = append(p.Own, "xxxxxxxxxxxxxxxx"...)
	_ = append(p.Retry, "xxxxxxxxxxxxxxxx"...)
	if !alike(p, full()) {
		t.Errorf("R4: two of what was read share memory: %+v", p)
	}
	clear(p.Goal)
	if string(p.Own) != "own" || string(p.Retry) != "r" {
		t.Errorf("R4: two of what was read share memory: %+v", p)
	}
	clear(p.Own)
	if string(p.Retry) != "r" {
		t.Errorf("R4: two of what was read share memory: %+v", p)
	}
}
