package client_test

import (
	"fmt"
	"reflect"
	"slices"
	"testing"

	"shibboleth/api"
	"shibboleth/client"
	"shibboleth/hello"
	"shibboleth/params"
	"shibboleth/sched"
	"shibboleth/term"
)

// way is a kind of talk: what a client is given, and who answers.
type way struct {
	name string
	make func() (begin, *host)
}

// ways are all kinds of talk that come to their end.
func ways() []way {
	resumes := func(comes, takes bool) func() (begin, *host) {
		return func() (begin, *host) { b, s := resuming(comes); return b, taking(b, s, takes) }
	}
	refuses := func(comes bool) func() (begin, *host) {
		return func() (begin, *host) { b, s := resuming(comes); return b, answering(b, s) }
	}
	again := func(how func() (begin, *host)) func() (begin, *host) {
		return func() (begin, *host) {
			b, h := how()
			b.again, h.tells.HasRetry, h.tells.Retry = true, true, slices.Clone(b.retry)
			return b, h
		}
	}
	bare := func() (begin, *host) { b, s := plain(); return b, answering(b, s) }
	return []way{
		{"without a ticket", bare},
		{"behind a retry", again(bare)},
		{"behind a retry without bytes", func() (begin, *host) {
			b, h := again(bare)()
			b.retry, h.tells.Retry = nil, nil
			return b, h
		}},
		{"with empty names", func() (begin, *host) {
			b, h := bare()
			b.goal, h.tells.Goal, h.own, h.tells.Own = nil, nil, nil, nil
			return b, h
		}},
		{"with a ticket that is refused", refuses(false)},
		{"with a ticket and early data that are refused", refuses(true)},
		{"with a ticket", resumes(false, false)},
		{"with a ticket and early data", resumes(true, true)},
		{"with a ticket, early data refused", resumes(true, false)},
		{"with a ticket and early data behind a retry", again(resumes(true, true))},
		{"without a ticket, with a version of one", func() (begin, *host) {
			b, h := bare()
			b.c.Version, h.client.Version = 2, 2
			return b, h
		}},
		{"with a ticket of another version that it offers", func() (begin, *host) {
			b, h := resumes(false, false)()
			b.c.Version, h.client.Version, h.version = 2, 2, 2
			h.tells.Chosen, h.tells.Versions = 2, []int{2}
			return b, h
		}},
	}
}

// ahead is a client that has taken the first n messages of a host, and the host.
func (w way) ahead(t *testing.T, n int) (*client.Client, *host) {
	t.Helper()
	b, h := w.make()
	c, s := taken(t, w.name, b)
	h.answer(s.Out[0].Data)
	for i := range n {
		passes(t, w.name, c, h.said[i], h.own)
	}
	return c, h
}

// passes lets a message come that is right.
func passes(t *testing.T, what string, c *client.Client, m client.Out, own []byte) client.Step {
	t.Helper()
	s := c.Handle(m.Level, m.Data, own)
	if s.Fail != api.OK {
		t.Fatalf("P20.2: %s: %d of a right message", what, s.Fail)
	}
	return s
}

// fails lets a message come with which a client fails, for good.
func fails(t *testing.T, what string, c *client.Client, level int, msg, peer []byte, want api.Errno) {
	t.Helper()
	was := c.Facts()
	if s := c.Handle(level, msg, peer); !reflect.DeepEqual(s, client.Step{Fail: want}) {
		t.Errorf("P20.2: %s: %v, not %d", what, s, want)
	}
	if f := c.Facts(); !reflect.DeepEqual(f, was) {
		t.Errorf("P20.2: %s: facts %v behind %v", what, f, was)
	}
}

// right tells for each stage of a talk the message that is to come; behind the last one a ticket is.
func (h *host) right(i int) client.Out {
	if i < len(h.said) {
		return h.said[i]
	}
	return client.Out{Level: api.App, Data: hello.Write(hello.Msg{Kind: ticketKind, Ticket: h.secret, Life: 5})}
}

func TestP20_2TheWholeTalk(t *testing.T) {
	for _, w := range ways() {
		b, h := w.make()
		c, s := taken(t, w.name, b)
		h.answer(s.Out[0].Data)
		h.goes(t, c)
		for i, life := range []int{0, 5, 1<<62 - 1} {
			ticket := hello.Write(hello.Msg{Kind: ticketKind, Ticket: api.Term(i + 1), Life: life})
			s := c.Handle(api.App, ticket, h.own)
			want := client.Step{Passes: []client.Pass{{Ticket: api.Term(i + 1), Secret: h.facts().Resume, Version: h.version, Life: life}}}
			if !reflect.DeepEqual(s, want) {
				t.Errorf("P20.2: %s: a ticket: %v, not %v", w.name, s, want)
			}
		}
		if f := c.Facts(); !reflect.DeepEqual(f, h.facts()) {
			t.Errorf("P20.2: %s: facts behind tickets %v, not %v", w.name, f, h.facts())
		}
	}
}

func TestP20_2Nil(t *testing.T) {
	var c *client.Client
	b, s := plain()
	h := answering(b, s)
	_, step := taken(t, "another one", b)
	h.answer(step.Out[0].Data)
	for _, msg := range [][]byte{nil, {1}, h.said[0].Data} {
		if s := c.Handle(api.Initial, msg, h.own); !reflect.DeepEqual(s, client.Step{Fail: api.ErrArg}) {
			t.Errorf("P20.2: of nil: %v", s)
		}
	}
	if f := c.Facts(); !reflect.DeepEqual(f, client.Facts{}) {
		t.Errorf("P20.2: of nil: %v", f)
	}
}

// each is a right message of each kind.
func each(h *host, hello0 []byte) map[int][]byte {
	l := map[int][]byte{
		clientHello: hello0,
		ticketKind:  h.right(len(h.said)).Data,
		nameKind:    hello.Write(hello.Msg{Kind: nameKind, Name: "host"}),
		proofKind:   hello.Write(hello.Msg{Kind: proofKind, Mac: h.secret}),
	}
	for _, o := range h.said {
		l[int(o.Data[0])] = o.Data
	}
	return l
}

// Where a message is not the one that is to come, or not at its level, that counts ahead of all else.
func TestP20_2AnotherMessageOrLevel(t *testing.T) {
	for _, w := range ways() {
		b, h := w.make()
		_, s := taken(t, w.name, b)
		h.answer(s.Out[0].Data)
		for i := range len(h.said) + 1 {
			for kind, msg := range each(h, s.Out[0].Data) {
				for _, level := range []int{-1 << 63, -1, 0, 1, 2, 3, 4, 1<<63 - 1} {
					c, h := w.ahead(t, i)
					next := h.right(i)
					if kind == int(next.Data[0]) && level == next.Level {
						continue
					}
					if kind == int(next.Data[0]) {
						msg = next.Data
					}
					what := fmt.Sprint(w.name, ", stage ", i, ", kind ", kind, ", level ", level)
					fails(t, what, c, level, msg, h.own, api.ErrProto)
					fails(t, what+", again", c, next.Level, next.Data, h.own, api.ErrState)
				}
			}
		}
	}
}

func TestP20_2NoMessage(t *testing.T) {
	for _, w := range ways()[:1] {
		_, h := w.ahead(t, 0)
		for i := range len(h.said) + 1 {
			next := h.right(i).Data
			long := append([]byte{next[0], 0, 7, 209}, make([]byte, 2001)...)
			for n, msg := range [][]byte{nil, {}, {0}, {3, 0, 0, 0}, next[:len(next)-1], append(slices.Clone(next), 0), append(slices.Clone(next), next...), long, make([]byte, 5000)} {
				for _, level := range []int{-1, 0, 1, 2, 3, 4} {
					c, h := w.ahead(t, i)
					what := fmt.Sprint("stage ", i, ", bytes ", n, ", level ", level)
					fails(t, what, c, level, msg, h.own, api.ErrForm)
					fails(t, what+", again", c, level, msg, h.own, api.ErrForm)
					right := h.right(i)
					fails(t, what+", behind that", c, right.Level, right.Data, h.own, api.ErrState)
				}
			}
		}
	}
}

// bad is a message that is not as the document says, and what it ends in.
type bad struct {
	what   string
	way    int // of ways
	at     int // which one of the host's messages
	change func(h *host, m *hello.Msg)
	want   api.Errno
}

// told changes the params of a message.
func told(change func(h *host, p *params.Params)) func(h *host, m *hello.Msg) {
	return func(h *host, m *hello.Msg) {
		p, _ := params.Read(m.Params)
		change(h, &p)
		m.Params = params.Write(p)
	}
}

const noSuch = 1 << 16 // the greatest number of a term; here no table has it till it is filled

// The numbers of ways that the messages below are said in.
const (
	noTicket      = 0
	behindRetry   = 1
	emptyRetry    = 2
	emptyNames    = 3
	refusedTicket = 4
	refusedEarly  = 5
	goesOn        = 6
	earlyComes    = 7
	tellsVersion  = 10
)

func badHellos() []bad {
	version := func(v int) func(h *host, m *hello.Msg) {
		return func(h *host, m *hello.Msg) { m.Version = v }
	}
	share := func(of func(x *term.Table) api.Term) func(h *host, m *hello.Msg) {
		return func(h *host, m *hello.Msg) { m.Share = of(h.x) }
	}
	return []bad{
		{"a version that it does not offer", noTicket, 0, version(4), api.ErrVersion},
		{"the greatest version", noTicket, 0, version(1<<32 - 1), api.ErrVersion},
		{"the ticket's version alone", refusedTicket, 0, func(h *host, m *hello.Msg) { m.Version = 4; h.client.Version = 4 }, api.ErrVersion},
		{"a secret as share", noTicket, 0, share(func(x *term.Table) api.Term { return x.Secret() }), api.ErrProto},
		{"a text as share", noTicket, 0, share(func(x *term.Table) api.Term { return x.Text(nil) }), api.ErrProto},
		{"a shared one as share", noTicket, 0, share(func(x *term.Table) api.Term {
			a := x.Secret()
			return x.Make(shared, []api.Term{a, x.Make(public, []api.Term{a})})
		}), api.ErrProto},
		{"a share that is no term", noTicket, 0, share(func(*term.Table) api.Term { return noSuch }), api.ErrProto},
		{"a ticket is taken, and there is none", noTicket, 0, func(h *host, m *hello.Msg) { m.Flag = true }, api.ErrProto},
		{"a ticket is taken, and there is none, but a version of one", tellsVersion, 0, func(h *host, m *hello.Msg) { m.Flag = true }, api.ErrProto},
		{"a ticket is taken, but with another version", goesOn, 0, version(2), api.ErrProto},
		{"another version and no share", noTicket, 0, func(h *host, m *hello.Msg) { m.Version, m.Share = 4, h.secret }, api.ErrVersion},
		{"another version, no share, no ticket", noTicket, 0, func(h *host, m *hello.Msg) { m.Version, m.Share, m.Flag = 4, h.secret, true }, api.ErrVersion},
		{"another version, and a ticket is taken", goesOn, 0, version(4), api.ErrVersion},
	}
}

func badParams() []bad {
	return []bad{
		{"no goal", noTicket, 1, told(func(h *host, p *params.Params) { p.HasGoal, p.Goal = false, nil }), api.ErrProto},
		{"no goal, where it is empty", emptyNames, 1, told(func(h *host, p *params.Params) { p.HasGoal = false }), api.ErrProto},
		{"another goal", noTicket, 1, told(func(h *host, p *params.Params) { p.Goal[7]++ }), api.ErrProto},
		{"a shorter goal", noTicket, 1, told(func(h *host, p *params.Params) { p.Goal = p.Goal[:7] }), api.ErrProto},
		{"an empty goal", noTicket, 1, told(func(h *host, p *params.Params) { p.Goal = nil }), api.ErrProto},
		{"a goal that is not empty", emptyNames, 1, told(func(h *host, p *params.Params) { p.Goal = []byte{0} }), api.ErrProto},
		{"no own name", noTicket, 1, told(func(h *host, p *params.Params) { p.HasOwn, p.Own = false, nil }), api.ErrProto},
		{"no own name, where it is empty", emptyNames, 1, told(func(h *host, p *params.Params) { p.HasOwn = false }), api.ErrProto},
		{"another own name", noTicket, 1, told(func(h *host, p *params.Params) { p.Own[0]++ }), api.ErrProto},
		{"the client's own name", noTicket, 1, told(func(h *host, p *params.Params) { p.Own = []byte("own name") }), api.ErrProto},
		{"a longer own name", noTicket, 1, told(func(h *host, p *params.Params) { p.Own = append(p.Own, 0) }), api.ErrProto},
		{"a retry that was none", noTicket, 1, told(func(h *host, p *params.Params) { p.HasRetry, p.Retry = true, []byte("re-try") }), api.ErrProto},
		{"an empty retry that was none", noTicket, 1, told(func(h *host, p *params.Params) { p.HasRetry = true }), api.ErrProto},
		{"no retry", behindRetry, 1, told(func(h *host, p *params.Params) { p.HasRetry, p.Retry = false, nil }), api.ErrProto},
		{"no retry, where it is empty", emptyRetry, 1, told(func(h *host, p *params.Params) { p.HasRetry = false }), api.ErrProto},
		{"another retry", behindRetry, 1, told(func(h *host, p *params.Params) { p.Retry[0]++ }), api.ErrProto},
		{"an empty retry", behindRetry, 1, told(func(h *host, p *params.Params) { p.Retry = nil }), api.ErrProto},
		{"another chosen version", noTicket, 1, told(func(h *host, p *params.Params) { p.Chosen = 1 }), api.ErrVersion},
		{"a chosen version that it would pick, but another one in the hello", noTicket, 1, told(func(h *host, p *params.Params) {
			p.Chosen, p.Versions = 1, []int{1, 2}
		}), api.ErrVersion},
		{"a version that it does not pick", noTicket, 1, told(func(h *host, p *params.Params) { p.Versions = []int{1, 2} }), api.ErrVersion},
		{"a version that it does not have", noTicket, 1, told(func(h *host, p *params.Params) { p.Versions = []int{1} }), api.ErrVersion},
		{"no versions", noTicket, 1, told(func(h *host, p *params.Params) { p.Versions = nil }), api.ErrVersion},
		{"none that it offers", noTicket, 1, told(func(h *host, p *params.Params) { p.Versions = []int{4, 5} }), api.ErrVersion},
		{"early data are taken, and none come", noTicket, 1, func(h *host, m *hello.Msg) { m.Flag = true }, api.ErrProto},
		{"early data are taken, but none come", goesOn, 1, func(h *host, m *hello.Msg) { m.Flag = true }, api.ErrProto},
		{"early data are taken, but the ticket is not", refusedEarly, 1, func(h *host, m *hello.Msg) { m.Flag = true }, api.ErrProto},
		{"another goal and another version", noTicket, 1, told(func(h *host, p *params.Params) { p.Goal[0]++; p.Chosen = 1 }), api.ErrProto},
		{"another retry and another version", behindRetry, 1, told(func(h *host, p *params.Params) { p.Retry[0]++; p.Versions = nil }), api.ErrProto},
		{"another version and early data", noTicket, 1, func(h *host, m *hello.Msg) {
			told(func(h *host, p *params.Params) { p.Chosen = 1 })(h, m)
			m.Flag = true
		}, api.ErrVersion},
	}
}

func badProofs() []bad {
	name := func(s string) func(h *host, m *hello.Msg) {
		return func(h *host, m *hello.Msg) { m.Name = s }
	}
	proof := func(of func(h *host) api.Term) func(h *host, m *hello.Msg) {
		return func(h *host, m *hello.Msg) { m.Mac = of(h) }
	}
	sign := func(h *host, secret, transcript api.Term) api.Term {
		return h.x.Make(signed, []api.Term{secret, sched.Signed(h.x, transcript)})
	}
	return []bad{
		{"another name", noTicket, 2, name("hose"), api.ErrName},
		{"a longer name", noTicket, 2, name("host\x00"), api.ErrName},
		{"a shorter name", refusedTicket, 2, name("hos"), api.ErrName},
		{"a proof by another secret", noTicket, 3, proof(func(h *host) api.Term { return sign(h, h.x.Secret(), h.heard) }), api.ErrName},
		{"a proof of another transcript", noTicket, 3, proof(func(h *host) api.Term { return sign(h, h.secret, sched.Begin(h.x)) }), api.ErrName},
		{"a signature of the transcript alone", noTicket, 3, proof(func(h *host) api.Term { return h.x.Make(signed, []api.Term{h.secret, h.heard}) }), api.ErrName},
		{"what is signed, without a signature", noTicket, 3, proof(func(h *host) api.Term { return sched.Signed(h.x, h.heard) }), api.ErrName},
		{"a proof that is no term", refusedEarly, 3, proof(func(h *host) api.Term { return noSuch }), api.ErrName},
		{"the server's public term", noTicket, 3, proof(func(h *host) api.Term { return h.client.Public }), api.ErrName},
	}
}

func badFinished() []bad {
	var l []bad
	for way, at := range map[int]int{noTicket: 4, behindRetry: 4, refusedEarly: 4, goesOn: 2, earlyComes: 2} {
		mac := func(what string, of func(h *host) api.Term) {
			l = append(l, bad{what, way, at, func(h *host, m *hello.Msg) { m.Mac = of(h) }, api.ErrSeal})
		}
		mac("the client's mac", func(h *host) api.Term { return sched.Finished(h.x, h.clientHs, h.heard) })
		mac("a mac of another transcript", func(h *host) api.Term { return sched.Finished(h.x, h.serverHs, sched.Begin(h.x)) })
		mac("a binder", func(h *host) api.Term { return sched.Binder(h.x, h.serverHs, h.heard) })
		mac("a mac by another secret", func(h *host) api.Term { return sched.Finished(h.x, h.x.Secret(), h.heard) })
		mac("a mac by the secret itself", func(h *host) api.Term { return h.x.Make(5, []api.Term{h.serverHs, h.heard}) })
		mac("the secret", func(h *host) api.Term { return h.serverHs })
		mac("no term", func(h *host) api.Term { return noSuch })
	}
	return l
}

// allBad are all messages that are not as they should be, each alone.
func allBad() []bad {
	return slices.Concat(badHellos(), badParams(), badProofs(), badFinished())
}

func TestP20_2WhatIsNotRight(t *testing.T) {
	for _, full := range []bool{false, true} {
		for _, x := range allBad() {
			w := ways()[x.way]
			what := fmt.Sprint(w.name, ": ", x.what, ", no room: ", full)
			b, h := w.make()
			c, s := taken(t, what, b)
			h.change = func(i int, m *hello.Msg) {
				if i == x.at {
					x.change(h, m)
				}
			}
			h.answer(s.Out[0].Data)
			for _, m := range h.said[:x.at] {
				passes(t, what, c, m, h.own)
			}
			m := h.said[x.at]
			if said, _ := hello.Read(m.Data); full && (said.Mac == noSuch || said.Share == noSuch) {
				continue // a full table has each number
			}
			if full { // every other error is named ahead of ErrFull
				fill(h.x, 0)
			}
			fails(t, what, c, m.Level, m.Data, h.own, x.want)
			h.change = nil
			fails(t, what+", again", c, m.Level, m.Data, h.own, api.ErrState)
		}
	}
}

// The name from which the packets come is the one that counts, with each message the present one.
func TestP20_2TheNameFromWhichTheyCome(t *testing.T) {
	for _, peer := range [][]byte{nil, []byte("host's ow"), []byte("host's own "), []byte("own name")} {
		c, h := ways()[noTicket].ahead(t, 0)
		if s := c.Handle(h.said[0].Level, h.said[0].Data, peer); s.Fail != api.OK {
			t.Errorf("P20.2: a hello from %q: %d", peer, s.Fail)
		}
		fails(t, "params from another name", c, h.said[1].Level, h.said[1].Data, peer, api.ErrProto)
	}
}

// A client that is done has what it has, also when it fails behind that.
func TestP20_2WhatItHasItKeeps(t *testing.T) {
	for _, w := range ways() {
		c, h := w.ahead(t, 0)
		h.goes(t, c)
		fails(t, w.name, c, api.Handshake, h.said[len(h.said)-1].Data, h.own, api.ErrProto)
		fails(t, w.name, c, api.App, h.right(len(h.said)).Data, h.own, api.ErrState)
		if f := c.Facts(); !reflect.DeepEqual(f, h.facts()) {
			t.Errorf("P20.2: %s: facts %v, not %v", w.name, f, h.facts())
		}
	}
}

// What is handed out is new memory.
func TestR4WhatIsHandedOut(t *testing.T) {
	c, h := ways()[noTicket].ahead(t, 5)
	for i := range 3 {
		f := c.Facts()
		if !reflect.DeepEqual(f, h.facts()) {
			t.Fatalf("R4: %d: facts %v, not %v", i, f, h.facts())
		}
		clear(f.Mine)
		clear(f.Theirs)
		f.Mine, f.Theirs = append(f.Mine, 1), append(f.Theirs, 1)
	}
}

// unreckoned is a client that waits for the message of a stage, and that message: of what a client makes of it the table has nothing yet.
func unreckoned(t *testing.T, stage int) (*client.Client, client.Out, *host) {
	t.Helper()
	c, h := ways()[noTicket].ahead(t, 0)
	m, _ := hello.Read(h.said[0].Data)
	if stage == 0 { // another hello than the one that the host has reckoned with
		m.Random, m.Share = h.x.Secret(), h.x.Make(public, []api.Term{h.x.Secret()})
		return c, client.Out{Level: api.Initial, Data: hello.Write(m)}, h
	}
	passes(t, "a hello", c, h.said[0], h.own)
	h.heard = sched.Next(h.x, sched.Next(h.x, sched.Begin(h.x), h.begun), h.said[0].Data)
	// Other params than those that the host has reckoned with; so all that follows is another one, too.
	h.tells.Idle++
	for at := 1; ; at++ {
		m := hello.Msg{Kind: paramsKind, Params: params.Write(h.tells)}
		switch at {
		case 2:
			m = hello.Msg{Kind: nameKind, Name: h.name}
		case 3:
			m = hello.Msg{Kind: proofKind, Mac: h.x.Make(signed, []api.Term{h.secret, sched.Signed(h.x, h.heard)})}
		case 4:
			m = hello.Msg{Kind: finished, Mac: sched.Finished(h.x, h.serverHs, h.heard)}
		}
		o := client.Out{Level: api.Handshake, Data: hello.Write(m)}
		if at == stage {
			return c, o, h
		}
		passes(t, "on the way", c, o, h.own)
		h.heard = sched.Next(h.x, h.heard, o.Data)
	}
}

// needs tells how much room a client needs for a message of a stage, and what it makes of it in a table with so much room.
func needs(t *testing.T, stage, room int) (int, client.Step, client.Facts) {
	t.Helper()
	c, m, h := unreckoned(t, stage)
	if room >= 0 {
		fill(h.x, room)
	}
	size := h.x.Size()
	s := c.Handle(m.Level, m.Data, h.own)
	next := c.Handle(m.Level, m.Data, h.own)
	if s.Fail != api.OK && next.Fail != api.ErrState {
		t.Errorf("P20.2: behind %d it tells %d", s.Fail, next.Fail)
	}
	return h.x.Size() - size, s, c.Facts()
}

func TestP20_2NoRoom(t *testing.T) {
	for stage := range 5 {
		needed, s, _ := needs(t, stage, -1)
		if s.Fail != api.OK || needed < [...]int{8, 3, 2, 3, 10}[stage] {
			t.Fatalf("P20.2: stage %d: %d, with %d terms", stage, s.Fail, needed)
		}
		for room := range needed {
			if _, s, f := needs(t, stage, room); !reflect.DeepEqual(s, client.Step{Fail: api.ErrFull}) || !reflect.DeepEqual(f, client.Facts{}) {
				t.Errorf("P20.2: stage %d, room %d of %d: %v, facts %v", stage, room, needed, s, f)
			}
		}
		if _, s, f := needs(t, stage, needed); s.Fail != api.OK || f.Done != (stage == 4) {
			t.Errorf("P20.2: stage %d, just enough room: %v, facts %v", stage, s, f)
		}
	}
}

// A ticket needs no room.
func TestP20_2ATicketWithoutRoom(t *testing.T) {
	c, h := ways()[noTicket].ahead(t, 5)
	fill(h.x, 0)
	passes(t, "a ticket", c, h.right(5), h.own)
}
