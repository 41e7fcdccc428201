package special_test

import (
	"bytes"
	"math/rand/v2"
	"slices"
	"strings"
	"testing"

	"shibboleth/api"
	"shibboleth/special"
	"shibboleth/term"
)

// name is a name of n bytes.
func name(n int) []byte {
	return []byte(strings.Repeat("n", n))
}

// list is a right list.
func list() special.List {
	return special.List{To: []byte("to"), From: []byte("from"), Versions: []int{1, 258}}
}

// retry is a right retry.
func retry() special.Retry {
	return special.Retry{Version: 258, To: []byte("to"), From: []byte("from"), Token: 3, Tag: 772}
}

// repeated is a list of n versions that are all alike.
func repeated(v, n int) []int {
	return slices.Repeat([]int{v}, n)
}

// sameList: are two lists alike, be an empty name nil or not?
func sameList(a, b special.List) bool {
	return bytes.Equal(a.To, b.To) && bytes.Equal(a.From, b.From) && slices.Equal(a.Versions, b.Versions)
}

// sameRetry: are two retries alike, be an empty name nil or not?
func sameRetry(a, b special.Retry) bool {
	return a.Version == b.Version && bytes.Equal(a.To, b.To) && bytes.Equal(a.From, b.From) && a.Token == b.Token && a.Tag == b.Tag
}

// writesList holds what WriteList tells, and what ReadList tells of it.
func writesList(t *testing.T, want string, l special.List) {
	t.Helper()
	if b := special.WriteList(l); string(b) != want {
		t.Errorf("P8.1: %+v: %x, not %x", l, b, want)
	}
	if want != "" {
		readsList(t, want, api.OK, l)
	}
}

// writesRetry holds what WriteRetry tells, and what ReadRetry tells of it.
func writesRetry(t *testing.T, want string, r special.Retry) {
	t.Helper()
	if b := special.WriteRetry(r); string(b) != want {
		t.Errorf("P8.1: %+v: %x, not %x", r, b, want)
	}
	if want != "" {
		readsRetry(t, want, api.OK, r)
	}
}

// readsList holds what ReadList tells.
func readsList(t *testing.T, b string, e api.Errno, want special.List) {
	t.Helper()
	l, gotE := special.ReadList([]byte(b))
	if gotE != e || !sameList(l, want) {
		t.Errorf("P8.1: list %.100x: %+v, %d, not %+v, %d", b, l, gotE, want, e)
	}
}

// readsRetry holds what ReadRetry tells.
func readsRetry(t *testing.T, b string, e api.Errno, want special.Retry) {
	t.Helper()
	r, gotE := special.ReadRetry([]byte(b))
	if gotE != e || !sameRetry(r, want) {
		t.Errorf("P8.1: retry %.100x: %+v, %d, not %+v, %d", b, r, gotE, want, e)
	}
}

// none holds that bytes are neither a list nor a retry.
func none(t *testing.T, b string) {
	t.Helper()
	readsList(t, b, api.ErrForm, special.List{})
	readsRetry(t, b, api.ErrForm, special.Retry{})
}

// long is a name of 20 bytes behind their count.
var long = "\x14" + string(name(20))

func TestP8_1ListsBytes(t *testing.T) {
	for _, x := range []struct {
		l    special.List
		want string
	}{
		{special.List{Versions: []int{2}}, "\x80\x00\x00\x00\x00\x00\x00\x00\x00\x00\x02"},
		{list(), "\x80\x00\x00\x00\x00\x02to\x04from\x00\x00\x00\x01\x00\x00\x01\x02"},
		{special.List{To: name(20), Versions: []int{1<<32 - 1}}, "\x80\x00\x00\x00\x00" + long + "\x00\xff\xff\xff\xff"},
		{special.List{From: name(20), Versions: []int{0x01020304}}, "\x80\x00\x00\x00\x00\x00" + long + "\x01\x02\x03\x04"},
		{special.List{To: []byte{}, From: []byte{}, Versions: []int{2, 2, 1, 2}}, "\x80\x00\x00\x00\x00\x00\x00\x00\x00\x00\x02\x00\x00\x00\x02\x00\x00\x00\x01\x00\x00\x00\x02"},
		{special.List{To: name(20), From: name(20), Versions: repeated(7, 16)}, "\x80\x00\x00\x00\x00" + long + long + strings.Repeat("\x00\x00\x00\x07", 16)},
		{special.List{To: []byte{0}, From: []byte{0, 0}, Versions: repeated(1, 15)}, "\x80\x00\x00\x00\x00\x01\x00\x02\x00\x00" + strings.Repeat("\x00\x00\x00\x01", 15)},
	} {
		writesList(t, x.want, x.l)
	}
}

func TestP8_1RetriesBytes(t *testing.T) {
	for _, x := range []struct {
		r    special.Retry
		want string
	}{
		{special.Retry{Version: 1, Token: 1, Tag: 1}, "\xf0\x00\x00\x00\x01\x00\x00\x00\x00\x00\x01\x00\x00\x00\x01"},
		{retry(), "\xf0\x00\x00\x01\x02\x02to\x04from\x00\x00\x00\x03\x00\x00\x03\x04"},
		{special.Retry{Version: 1<<32 - 1, To: name(20), Token: 65536, Tag: 65535}, "\xf0\xff\xff\xff\xff" + long + "\x00\x00\x01\x00\x00\x00\x00\xff\xff"},
		{special.Retry{Version: 0x01020304, From: name(20), Token: 258, Tag: 65536}, "\xf0\x01\x02\x03\x04\x00" + long + "\x00\x00\x01\x02\x00\x01\x00\x00"},
		{special.Retry{Version: 2, To: name(20), From: name(20), Token: 5, Tag: 5}, "\xf0\x00\x00\x00\x02" + long + long + "\x00\x00\x00\x05\x00\x00\x00\x05"},
	} {
		writesRetry(t, x.want, x.r)
	}
}

func TestP8_1WriteOfWrongFields(t *testing.T) {
	writesList(t, "", special.List{})
	writesRetry(t, "", special.Retry{})
	for _, n := range []int{21, 22, 256, 257, 276, 1 << 16} {
		toLong, fromLong := list(), list()
		toLong.To, fromLong.From = name(n), name(n)
		writesList(t, "", toLong)
		writesList(t, "", fromLong)
		r, s := retry(), retry()
		r.To, s.From = name(n), name(n)
		writesRetry(t, "", r)
		writesRetry(t, "", s)
	}
	for _, v := range []int{-1 << 63, -1 << 32, -1, 0, 1 << 32, 1<<32 + 1, 1<<63 - 1} {
		for _, versions := range [][]int{{v}, {1, v}, {v, 1}, append(repeated(1, 15), v)} {
			l := list()
			l.Versions = versions
			writesList(t, "", l)
		}
		r := retry()
		r.Version = v
		writesRetry(t, "", r)
	}
	for _, n := range []int{0, 17, 18, 1000} {
		l := list()
		l.Versions = repeated(1, n)
		writesList(t, "", l)
	}
	for _, h := range []api.Term{-1 << 63, -1, 0, 65537, 1 << 32, 1<<32 + 1, 1<<63 - 1} {
		r, s := retry(), retry()
		r.Token, s.Tag = h, h
		writesRetry(t, "", r)
		writesRetry(t, "", s)
	}
}

func TestP8_1ReadCutShort(t *testing.T) {
	none(t, "")
	if l, e := special.ReadList(nil); e != api.ErrForm || !sameList(l, special.List{}) {
		t.Errorf("P8.1: nil: %+v, %d", l, e)
	}
	if r, e := special.ReadRetry(nil); e != api.ErrForm || !sameRetry(r, special.Retry{}) {
		t.Errorf("P8.1: nil: %+v, %d", r, e)
	}
	for _, l := range []special.List{list(), {Versions: []int{1}}, {To: name(20), From: name(20), Versions: repeated(9, 16)}} {
		b := string(special.WriteList(l))
		start := len(b) - 4*len(l.Versions)
		for i := range len(b) {
			// A list of fewer versions is one, too.
			if many := (i - start) / 4; i > start && (i-start)%4 == 0 {
				readsList(t, b[:i], api.OK, special.List{To: l.To, From: l.From, Versions: l.Versions[:many]})
			} else {
				none(t, b[:i])
			}
		}
	}
	for _, r := range []special.Retry{retry(), {Version: 1, Token: 1, Tag: 1}, {Version: 1, To: name(20), From: name(20), Token: 65536, Tag: 65536}} {
		b := string(special.WriteRetry(r))
		for i := range len(b) {
			none(t, b[:i])
		}
	}
}

func TestP8_1ReadOfMoreBehind(t *testing.T) {
	for _, n := range []int{1, 2, 3, 4, 5, 8, 100, 1 << 16} {
		for _, x := range []string{"\x00", "\x01"} {
			readsRetry(t, string(special.WriteRetry(retry()))+strings.Repeat(x, n), api.ErrForm, special.Retry{})
			most := list()
			most.Versions = repeated(1, 16)
			readsList(t, string(special.WriteList(most))+strings.Repeat(x, n), api.ErrForm, special.List{})
			if n%4 != 0 || x == "\x00" || n > 56 {
				readsList(t, string(special.WriteList(list()))+strings.Repeat(x, n), api.ErrForm, special.List{})
			}
		}
	}
	readsList(t, string(special.WriteList(list()))+"\x01\x01\x01\x01", api.OK, special.List{To: []byte("to"), From: []byte("from"), Versions: []int{1, 258, 0x01010101}})
}

// Of all first bytes just one begins a list, and just one a retry.
func TestP8_1ReadOfAllFirstBytes(t *testing.T) {
	l, r := string(special.WriteList(list()))[1:], string(special.WriteRetry(retry()))[1:]
	for first := range 256 {
		b := string([]byte{byte(first)})
		if first != 0x80 {
			none(t, b+l)
		}
		if first != 0xf0 {
			none(t, b+r)
		}
	}
	readsList(t, "\xf0"+l, api.ErrForm, special.List{})
	readsRetry(t, "\x80"+r, api.ErrForm, special.Retry{})
	readsRetry(t, "\x80"+l, api.ErrForm, special.Retry{})
	readsList(t, "\x80"+r, api.ErrForm, special.List{})
}

func TestP8_1ReadOfWrongFields(t *testing.T) {
	tooLong := "\x15" + string(name(21))
	for _, b := range []string{
		// Lists.
		"\x80\x00\x00\x00\x01\x00\x00\x00\x00\x00\x01", "\x80\x01\x00\x00\x00\x00\x00\x00\x00\x00\x01", "\x80\x00\x00\x01\x00\x00\x00\x00\x00\x00\x01",
		"\x80\x00\x00\x00\x00" + tooLong + "\x00\x00\x00\x00\x01", "\x80\x00\x00\x00\x00\x00" + tooLong + "\x00\x00\x00\x01", "\x80\x00\x00\x00\x00\xff\x00\x00\x00\x00\x01", "\x80\x00\x00\x00\x00\x15", "\x80\x00\x00\x00\x00\x00\x15",
		"\x80\x00\x00\x00\x00\xff" + string(name(255)) + "\x00\x00\x00\x00\x01",
		"\x80\x00\x00\x00\x00\x00\x00", "\x80\x00\x00\x00\x00\x00\x00\x00\x00\x00\x00", "\x80\x00\x00\x00\x00\x00\x00\x00\x00\x00\x01\x00\x00\x00\x00", "\x80\x00\x00\x00\x00\x00\x00\x00\x00\x00\x00\x00\x00\x00\x01",
		"\x80\x00\x00\x00\x00\x00\x00" + strings.Repeat("\x00\x00\x00\x01", 17), "\x80\x00\x00\x00\x00\x00\x00" + strings.Repeat("\x00\x00\x00\x01", 16) + "\x00",
		// Retries.
		"\xf0\x00\x00\x00\x00\x00\x00\x00\x00\x00\x01\x00\x00\x00\x01",
		"\xf0\x00\x00\x00\x01" + tooLong + "\x00\x00\x00\x00\x01\x00\x00\x00\x01", "\xf0\x00\x00\x00\x01\x00" + tooLong + "\x00\x00\x00\x01\x00\x00\x00\x01", "\xf0\x00\x00\x00\x01\xff", "\xf0\x00\x00\x00\x01\x00\xff",
		"\xf0\x00\x00\x00\x01\x00\x00\x00\x00\x00\x00\x00\x00\x00\x01", "\xf0\x00\x00\x00\x01\x00\x00\x00\x00\x00\x01\x00\x00\x00\x00",
		"\xf0\x00\x00\x00\x01\x00\x00\x00\x01\x00\x01\x00\x00\x00\x01", "\xf0\x00\x00\x00\x01\x00\x00\x00\x00\x00\x01\x00\x01\x00\x01", "\xf0\x00\x00\x00\x01\x00\x00\xff\xff\xff\xff\x00\x00\x00\x01", "\xf0\x00\x00\x00\x01\x00\x00\x00\x00\x00\x01\xff\xff\xff\xff",
		"\xf0\x00\x00\x00\x01\x00\x00\x01\x00\x00\x00\x00\x00\x00\x01",
	} {
		none(t, b)
	}
	// Much that is no version makes no list.
	none(t, "\x80\x00\x00\x00\x00\x00\x00"+strings.Repeat("\x00\x00\x00\x01", 1<<18))
}

// texts tells the terms of a table, each by its kind, its text and its parts.
func texts(x *term.Table) (l []term.Node) {
	for h := 1; h <= x.Size(); h++ {
		n, _ := x.Look(api.Term(h))
		l = append(l, n)
	}
	return l
}

// holdsTable holds a table's terms.
func holdsTable(t *testing.T, x *term.Table, want ...term.Node) {
	t.Helper()
	alike := func(a, b term.Node) bool {
		return a.Kind == b.Kind && a.Text == b.Text && slices.Equal(a.Parts, b.Parts)
	}
	if got := texts(x); !slices.EqualFunc(got, want, alike) {
		t.Errorf("P8.2: %v, not %v", got, want)
	}
}

// untagged are the bytes of retry() without its tag.
const untagged = "\xf0\x00\x00\x01\x02\x02to\x04from\x00\x00\x00\x03"

func TestP8_2TagMakesTerms(t *testing.T) {
	x := term.New()
	if h := special.Tag(x, []byte("goal"), retry()); h != 5 {
		t.Errorf("P8.2: %d", h)
	}
	want := []term.Node{{Kind: 1, Text: "retry"}, {Kind: 1, Text: "goal"}, {Kind: 1, Text: untagged}, {Kind: 3, Parts: []api.Term{2, 3}}, {Kind: 5, Parts: []api.Term{1, 4}}}
	holdsTable(t, x, want...)
	// Once more, and with whichever tag: nothing is made any more.
	for _, tag := range []api.Term{-1 << 63, -1, 0, 1, 5, 65536, 65537, 1<<63 - 1} {
		r := retry()
		r.Tag = tag
		if h := special.Tag(x, []byte("goal"), r); h != 5 {
			t.Errorf("P8.2: with the tag %d: %d", tag, h)
		}
	}
	holdsTable(t, x, want...)
}

func TestP8_2TagOfOddGoals(t *testing.T) {
	// The goal is a text like each other one: it may be as long, and be the key's.
	for goal, want := range map[string]api.Term{"": 5, "retry": 4, untagged: 4, string(name(20)): 5, string(name(2048)): 5} {
		x := term.New()
		r := retry()
		r.Tag = special.Tag(x, []byte(goal), r)
		if r.Tag != want || x.Size() != int(want) || !special.Tagged(x, []byte(goal), r) {
			t.Errorf("P8.2: the goal %q: %d of %v", goal, r.Tag, texts(x))
		}
	}
	x := term.New()
	if h := special.Tag(x, nil, retry()); h != 5 || special.Tag(x, []byte{}, retry()) != 5 {
		t.Errorf("R3: the goals nil and empty: %d", h)
	}
}

func TestP8_2TagOfWrongOnes(t *testing.T) {
	for i, change := range []func(r *special.Retry){
		func(r *special.Retry) { *r = special.Retry{} },
		func(r *special.Retry) { r.Version = 0 },
		func(r *special.Retry) { r.Version = 1 << 32 },
		func(r *special.Retry) { r.To = name(21) },
		func(r *special.Retry) { r.From = name(21) },
		func(r *special.Retry) { r.Token = 0 },
		func(r *special.Retry) { r.Token = -1 },
		func(r *special.Retry) { r.Token = 65537 },
	} {
		x, r := term.New(), retry()
		change(&r)
		if h := special.Tag(x, []byte("goal"), r); h != 0 || x.Size() != 0 || special.Tagged(x, []byte("goal"), r) {
			t.Errorf("P8.2: the change %d: %d, %v", i, h, texts(x))
		}
	}
	if special.Tag(nil, []byte("goal"), retry()) != 0 || special.Tagged(nil, []byte("goal"), retry()) {
		t.Error("P8.2: there is a tag in no table")
	}
}

// What was made on the way stays, where layer 2 says 0.
func TestP8_2TagWithoutRoom(t *testing.T) {
	made := []term.Node{{Kind: 1, Text: "retry"}, {Kind: 1, Text: "goal"}, {Kind: 1, Text: untagged}, {Kind: 3}, {Kind: 5}}
	for room := range 6 {
		x := term.New()
		for x.Size() < 1<<16-room {
			x.Secret()
		}
		want := api.Term(0)
		if room == 5 {
			want = 65536
		}
		r := retry()
		r.Tag = special.Tag(x, []byte("goal"), r)
		if r.Tag != want {
			t.Errorf("P8.2: with room for %d: %d", room, r.Tag)
		}
		if x.Size() != 1<<16 {
			t.Errorf("P8.2: with room for %d there are %d", room, x.Size())
		}
		if special.Tagged(x, []byte("goal"), r) != (room == 5) {
			t.Errorf("P8.2: with room for %d it is tagged, or not", room)
		}
		for i, n := range texts(x)[1<<16-room:] {
			if n.Kind != made[i].Kind || n.Text != made[i].Text {
				t.Errorf("P8.2: with room for %d: %v", room, n)
			}
		}
	}
	x := term.New()
	if h := special.Tag(x, name(2049), retry()); h != 0 {
		t.Errorf("P8.2: a goal that is too long: %d", h)
	}
	if n, _ := x.Look(1); n.Text != "retry" {
		t.Errorf("P8.2: a goal that is too long: %v", texts(x))
	}
	// Where all of it is there, a full table has it.
	x = term.New()
	h := special.Tag(x, []byte("goal"), retry())
	for x.Secret() != 0 {
	}
	if again := special.Tag(x, []byte("goal"), retry()); h == 0 || again != h {
		t.Errorf("P8.2: %d, in a full table %d", h, again)
	}
}

func TestP8_2Tagged(t *testing.T) {
	x := term.New()
	x.Secret() // no number of the table is that of another one
	r := retry()
	r.Tag = special.Tag(x, []byte("goal"), r)
	was := x.Size()
	holds := func(want bool, what string, goal string, r special.Retry) {
		t.Helper()
		if special.Tagged(x, []byte(goal), r) != want {
			t.Errorf("P8.2: tagged is %t: %s", !want, what)
		}
		if x.Size() != was {
			t.Errorf("P8.2: Tagged makes something: %s", what)
		}
	}
	holds(true, "its tag", "goal", r)
	for _, goal := range []string{"", "goa", "goals", "Goal", "retry", untagged, string(name(2049))} {
		holds(false, "another goal", goal, r)
	}
	for h := api.Term(-2); h < 20; h++ {
		s := r
		s.Tag = h
		holds(h == r.Tag, "another tag", "goal", s)
	}
	for _, h := range []api.Term{-1 << 63, 65536, 65537, 1<<32 + r.Tag, 1<<63 - 1} {
		s := r
		s.Tag = h
		holds(false, "a tag that no term has", "goal", s)
	}
	for i, change := range []func(r *special.Retry){
		func(r *special.Retry) { r.Version++ },
		func(r *special.Retry) { r.To = []byte("ta") },
		func(r *special.Retry) { r.To = nil },
		func(r *special.Retry) { r.From = []byte("fron") },
		func(r *special.Retry) { r.To, r.From = []byte("tofrom"), nil },
		func(r *special.Retry) { r.Token++ },
		func(r *special.Retry) { r.Token = 0 },
		func(r *special.Retry) { r.Version = 0 },
		func(r *special.Retry) { r.To = name(21) },
	} {
		s := r
		change(&s)
		holds(false, "the change "+string(rune('0'+i)), "goal", s)
	}
}

// A tag that is made otherwise is none.
func TestP8_2TaggedByOtherTerms(t *testing.T) {
	x := term.New()
	key, goal, said := x.Text([]byte("retry")), x.Text([]byte("goal")), x.Text([]byte(untagged))
	whole := x.Text(special.WriteRetry(retry()))
	other, empty := x.Secret(), x.Text(nil)
	row := func(parts ...api.Term) api.Term { return x.Make(3, parts) }
	right := x.Make(5, []api.Term{key, row(goal, said)})
	for i, h := range []api.Term{
		right,
		x.Make(5, []api.Term{key, row(said, goal)}),
		x.Make(5, []api.Term{key, row(goal, said, empty)}),
		x.Make(5, []api.Term{key, row(empty, goal, said)}),
		x.Make(5, []api.Term{key, row(goal)}),
		x.Make(5, []api.Term{key, row(said)}),
		x.Make(5, []api.Term{key, row()}),
		x.Make(5, []api.Term{key, row(goal, whole)}),
		x.Make(5, []api.Term{key, row(other, said)}),
		x.Make(5, []api.Term{key, row(goal, other)}),
		x.Make(5, []api.Term{key, row(goal, row(said))}),
		x.Make(5, []api.Term{key, said}),
		x.Make(5, []api.Term{key, goal}),
		x.Make(5, []api.Term{key, other}),
		x.Make(5, []api.Term{key, x.Make(4, []api.Term{row(goal, said)})}),
		x.Make(5, []api.Term{key, x.Make(5, []api.Term{goal, said})}),
		x.Make(5, []api.Term{other, row(goal, said)}),
		x.Make(5, []api.Term{empty, row(goal, said)}),
		x.Make(5, []api.Term{goal, row(goal, said)}),
		x.Make(5, []api.Term{row(goal, said), key}),
		x.Make(3, []api.Term{key, row(goal, said)}),
		x.Make(4, []api.Term{row(goal, said)}),
		x.Make(6, []api.Term{key, key, row(goal, said)}),
		x.Make(9, []api.Term{other, row(goal, said)}),
		x.Make(10, []api.Term{key, empty, row(goal, said)}),
		row(goal, said),
		key,
	} {
		r := retry()
		r.Tag = h
		if h == 0 || special.Tagged(x, []byte("goal"), r) != (i == 0) {
			t.Errorf("P8.2: the tag %d, %d", i, h)
		}
	}
	if special.Tag(x, []byte("goal"), retry()) != right {
		t.Error("P8.2: another tag")
	}
	// What has no text is not the empty text, and what may not be has no bytes, not empty ones.
	r := retry()
	r.Tag = x.Make(5, []api.Term{key, row(other, said)})
	if special.Tagged(x, nil, r) {
		t.Error("P8.2: a secret is an empty goal")
	}
	r.Version, r.Tag = 0, x.Make(5, []api.Term{key, row(goal, empty)})
	if special.Tagged(x, []byte("goal"), r) {
		t.Error("P8.2: a retry that may not be has a tag")
	}
}

// A token that no term of the table has is a number like another one.
func TestP8_2TagOfTokensThatAreNot(t *testing.T) {
	for _, token := range []api.Term{1, 7, 65536} {
		x, r := term.New(), retry()
		r.Token = token
		if r.Tag = special.Tag(x, []byte("goal"), r); r.Tag != 5 || !special.Tagged(x, []byte("goal"), r) || special.Tagged(term.New(), []byte("goal"), r) {
			t.Errorf("P8.2: the token %d: %d", token, r.Tag)
		}
	}
}

// filled is n bytes, whichever.
func filled(r *rand.Rand, n int) []byte {
	b := make([]byte, n)
	for i := range b {
		b[i] = byte(r.Uint32())
	}
	return b
}

// randomList is a right list.
func randomList(r *rand.Rand) special.List {
	l := special.List{To: filled(r, r.IntN(21)), From: filled(r, r.IntN(21))}
	for range 1 + r.IntN(16) {
		l.Versions = append(l.Versions, version(r))
	}
	return l
}

// randomRetry is a right retry.
func randomRetry(r *rand.Rand) special.Retry {
	return special.Retry{Version: version(r), To: filled(r, r.IntN(21)), From: filled(r, r.IntN(21)), Token: api.Term(1 + r.IntN(65536)), Tag: api.Term(1 + r.IntN(65536))}
}

// version is one of whatever size.
func version(r *rand.Rand) int {
	return 1 + r.IntN(1<<(1+r.IntN(32))-1)
}

func TestP8_3WrittenIsRead(t *testing.T) {
	r := rand.New(rand.NewPCG(8, 3))
	for range 20000 {
		l, again := randomList(r), randomRetry(r)
		readsList(t, string(special.WriteList(l)), api.OK, l)
		readsRetry(t, string(special.WriteRetry(again)), api.OK, again)
	}
}

// told tells what the document says that bytes are, with each place reckoned ahead: a list, a retry, or neither.
func told(b []byte) (l special.List, r special.Retry, isList, isRetry bool) {
	if len(b) < 7 || int(b[5]) > 20 {
		return
	}
	second := 6 + int(b[5])
	if len(b) <= second || int(b[second]) > 20 {
		return
	}
	end := second + 1 + int(b[second])
	if len(b) < end {
		return
	}
	four := func(at int) int { return int(b[at])<<24 + int(b[at+1])<<16 + int(b[at+2])<<8 + int(b[at+3]) }
	to, from, version := b[6:second], b[second+1:end], four(1)
	more := len(b) - end
	if b[0] == 0x80 && version == 0 && more%4 == 0 && more >= 4 && more <= 64 {
		l, isList = special.List{To: to, From: from}, true
		for at := end; at < len(b); at += 4 {
			l.Versions = append(l.Versions, four(at))
			isList = isList && four(at) > 0
		}
	}
	if b[0] == 0xf0 && version > 0 && more == 8 {
		token, tag := four(end), four(end+4)
		r = special.Retry{Version: version, To: to, From: from, Token: api.Term(token), Tag: api.Term(tag)}
		isRetry = token >= 1 && token <= 65536 && tag >= 1 && tag <= 65536
	}
	return
}

// What is read of bytes that are changed a little is what the document says, and is written as it was.
func TestP8_3ChangedIsReadOrNot(t *testing.T) {
	r := rand.New(rand.NewPCG(8, 4))
	var lists, retries, others int
	for i := range 200000 {
		b := special.WriteList(randomList(r))
		if i%2 == 0 {
			b = special.WriteRetry(randomRetry(r))
		}
		for range r.IntN(3) {
			if len(b) == 0 {
				break
			}
			switch i := r.IntN(len(b)); r.IntN(5) {
			case 0:
				b[i] = byte(r.Uint32())
			case 1:
				b[i] ^= 1 << r.IntN(8)
			case 2:
				b = slices.Delete(b, i, i+1)
			case 3:
				b[0] ^= 0x70
			default:
				b = slices.Insert(b, i, []byte{0, 1, 20, 21, 0x80, 0xf0}[r.IntN(6)])
			}
		}
		l, again, isList, isRetry := told(b)
		switch {
		case isList:
			lists++
			readsList(t, string(b), api.OK, l)
			readsRetry(t, string(b), api.ErrForm, special.Retry{})
			if w := special.WriteList(l); !bytes.Equal(w, b) {
				t.Errorf("P8.3: %x is written as %x", b, w)
			}
		case isRetry:
			retries++
			readsRetry(t, string(b), api.OK, again)
			readsList(t, string(b), api.ErrForm, special.List{})
			if w := special.WriteRetry(again); !bytes.Equal(w, b) {
				t.Errorf("P8.3: %x is written as %x", b, w)
			}
		default:
			others++
			none(t, string(b))
		}
	}
	if min(lists, retries, others) < 20000 {
		t.Errorf("P8.3: %d lists, %d retries, %d others", lists, retries, others)
	}
}

// The tags of all pairs of these goals and retries are different, and none is another pair's.
func TestP8_3TagsAreDifferent(t *testing.T) {
	x := term.New()
	var retries []special.Retry
	for _, version := range []int{1, 256} {
		for _, to := range []string{"", "a", "ab", "\x00"} {
			for _, from := range []string{"", "b", "ab", "\x01a"} {
				for _, token := range []api.Term{1, 2, 256} {
					retries = append(retries, special.Retry{Version: version, To: []byte(to), From: []byte(from), Token: token})
				}
			}
		}
	}
	goals := []string{"", "a", "retry", "\x00"}
	type pair struct {
		goal, retry int
	}
	tags := map[api.Term]pair{}
	for g, goal := range goals {
		for i, r := range retries {
			h := special.Tag(x, []byte(goal), r)
			if p, is := tags[h]; is || h == 0 {
				t.Fatalf("P8.3: %d is the tag of %v and %v", h, p, pair{g, i})
			}
			tags[h] = pair{g, i}
		}
	}
	was := x.Size()
	for h, p := range tags {
		for i, r := range retries {
			r.Tag = h
			for g, goal := range goals {
				if special.Tagged(x, []byte(goal), r) != (p == pair{g, i}) {
					t.Fatalf("P8.3: the tag of %v, and %v", p, pair{g, i})
				}
			}
		}
	}
	if x.Size() != was {
		t.Errorf("P8.2: Tagged makes something")
	}
}

// room is a list with spare room behind it, filled with dots.
func room(s string) []byte {
	return append([]byte(s), "............"...)[:len(s)]
}

// untouched: is a list of room as it was, and its spare room?
func untouched(b []byte, was string) bool {
	return string(b[:len(was)+12]) == was+"............"
}

func TestR4ArgumentsStay(t *testing.T) {
	versions := []int{1, 2, -1, -1}
	to, from, goal := room("to"), room("from"), room("goal")
	b := special.WriteList(special.List{To: to, From: from, Versions: versions[:2]})
	r := special.Retry{Version: 1, To: to, From: from, Token: 1, Tag: 1}
	c := special.WriteRetry(r)
	x := term.New()
	r.Tag = special.Tag(x, goal, r)
	special.Tagged(x, goal, r)
	whole, other := room(string(b)), room(string(c))
	special.ReadList(whole)
	special.ReadRetry(other)
	if !untouched(to, "to") || !untouched(from, "from") || !untouched(goal, "goal") || !slices.Equal(versions, []int{1, 2, -1, -1}) {
		t.Errorf("R4: %q, %q, %q, %v", to, from, goal, versions)
	}
	if !untouched(whole, string(b)) || !untouched(other, string(c)) {
		t.Errorf("R4: ReadList or ReadRetry made %x, %x", whole, other)
	}
	clear(goal)
	clear(to)
	if n, _ := x.Look(2); n.Text != "goal" {
		t.Errorf("R4: the goal is kept: %q", n.Text)
	}
}

func TestR4AnswersAreNew(t *testing.T) {
	b, c := special.WriteList(list()), special.WriteRetry(retry())
	l, _ := special.ReadList(b)
	r, _ := special.ReadRetry(c)
	clear(b)
	clear(c)
	if !sameList(l, list()) || !sameRetry(r, retry()) {
		t.Errorf("R4: what was read is the argument's: %+v, %+v", l, r)
	}
	_ = append(l.To, "xxxxxxxxxxxxxxxx"...)
	_ = append(r.To, "xxxxxxxxxxxxxxxx"...)
	clear(l.To)
	clear(r.To)
	if string(l.From) != "from" || string(r.From) != "from" {
		t.Errorf("R4: two of what was read share memory: %+v, %+v", l, r)
	}
	clear(l.From)
	clear(r.From)
	if string(special.WriteList(list())[:8]) != "\x80\x00\x00\x00\x00\x02to" || string(special.WriteRetry(retry())[:8]) != "\xf0\x00\x00\x01\x02\x02to" {
		t.Error("R4: what was written is kept")
	}
}
