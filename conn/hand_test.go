package conn_test

import (
	"slices"
	"testing"

	"shibboleth/api"
	"shibboleth/client"
	"shibboleth/conn"
	"shibboleth/frame"
	"shibboleth/guard"
	"shibboleth/header"
	"shibboleth/hello"
	"shibboleth/sched"
	"shibboleth/server"
	"shibboleth/stream"
	"shibboleth/strike"
	"shibboleth/term"
)

// The kinds of terms, by the document's numbers.
const (
	textKind = 1
	rowKind  = 3
	hashKind = 4
	public   = 7
)

// The kinds of frames, by the document's numbers.
const (
	padding    = 0
	ping       = 1
	ackKind    = 2
	crypto     = 6
	tokenKind  = 7
	dataKind   = 8
	closeKind  = 28
	doneKind   = 30
	clientSaid = 1 // a client's hello, of a message
)

// The names of both sides, and of the first packet's goal.
const (
	guestName = "cccccccc"
	hostName  = "ssssssss"
	goalName  = "gggggggg"
)

// house is a table, and what a client and a server are given.
type house struct {
	x                        *term.Table
	guest                    client.Config
	host                     server.Config
	version                  int
	own, name, goal, retried []byte // the client's own name, the server's, the goal, a Retry's
	again                    bool
	token                    api.Term
}

// newHouse has two versions, a client that offers both and begins with the first one, and a data limit of 9 on both sides.
func newHouse() *house {
	x := term.New()
	secret, key := x.Secret(), x.Secret()
	return &house{
		x:     x,
		guest: client.Config{Name: "host", Public: x.Make(public, []api.Term{secret}), Versions: []int{1, 2}, Idle: 1, Data: 9},
		host:  server.Config{Name: "host", Secret: secret, Versions: []int{1, 2}, Idle: 1, Data: 9, Key: key, Life: 50, Store: strike.New(50, 50)},

		version: 1, own: []byte(guestName), name: []byte(hostName), goal: []byte(goalName), retried: []byte("rrrrrrrr"),
		token: x.Secret(),
	}
}

// withTicket lets the client come with a ticket of a talk of before, of the version 1, and early data.
func withTicket() *house {
	w := newHouse()
	c, s := w.dials(), w.accepts()
	for range 4 {
		carry(c, s)
	}
	pass := c.State().Passes[0]
	w.guest.Ticket, w.guest.Secret, w.guest.Version, w.guest.Early = pass.Ticket, pass.Secret, pass.Version, true
	return w
}

func (w *house) dial() (*conn.Conn, api.Errno) {
	return conn.Dial(w.x, w.guest, w.version, w.own, w.goal)
}

func (w *house) accept() (*conn.Conn, api.Errno) {
	return conn.Accept(w.x, w.host, w.version, w.name, w.own, w.goal, w.retried, w.again, w.token)
}

// dials is a client.
func (w *house) dials() *conn.Conn {
	c, e := w.dial()
	if c == nil || e != api.OK {
		panic("P22.1: there is no client")
	}
	return c
}

// accepts is a server.
func (w *house) accepts() *conn.Conn {
	s, e := w.accept()
	if s == nil || e != api.OK {
		panic("P22.1: there is no server")
	}
	return s
}

// carry lets all come that both have to say, and ticks.
func carry(c, s *conn.Conn) {
	for _, b := range c.Poll(1) {
		s.Deliver(b, 1)
	}
	for _, b := range s.Poll(1) {
		c.Deliver(b, 1)
	}
	c.Tick()
	s.Tick()
}

// hand is a side that is played by hand: by the layers below, in the document's words.
type hand struct {
	t       *testing.T
	x       *term.Table
	g       *guard.Guard
	version int
	own, to []byte
	token   []byte
	next    [api.Levels]int // its packets' numbers
	at      [api.Levels]int // where its next piece stands
	in      [api.Levels]stream.Stream
	handle  func(level int, msg []byte) client.Step
	facts   func() client.Facts
	says    []client.Out // what it has not said yet
}

// packet is a packet that came to a hand.
type packet struct {
	header header.Header
	level  int
	number int
	frames []frame.Frame
	size   int // in bytes
}

// host is a server that is played by hand.
func (w *house) byHost(t *testing.T) *hand {
	s, e := server.New(w.x, w.host, w.name, w.goal, w.retried, w.again)
	if e != api.OK {
		t.Fatalf("P21.1: %d", e)
	}
	h := &hand{t: t, x: w.x, g: guard.New(w.x), version: w.version, own: w.name, to: w.own, facts: s.Facts}
	h.handle = func(level int, msg []byte) client.Step { return s.Handle(level, msg, w.own, w.version, 1) }
	first := w.goal
	if w.again {
		first = w.retried
	}
	mine, theirs := sched.First(w.x, first)
	h.g.Install(api.Initial, mine, theirs)
	return h
}

// byGuest is a client that is played by hand, and has its hello to say.
func (w *house) byGuest(t *testing.T) *hand {
	c, step := client.New(w.x, w.guest, w.version, w.own, w.goal, w.retried, w.again)
	if c == nil {
		t.Fatalf("P20.1: %d", step.Fail)
	}
	h := &hand{t: t, x: w.x, g: guard.New(w.x), version: w.version, own: w.own, to: w.goal, facts: c.Facts}
	h.handle = func(level int, msg []byte) client.Step { return c.Handle(level, msg, w.name) }
	if w.again {
		h.to = w.retried
	}
	mine, theirs := sched.First(w.x, h.to)
	h.g.Install(api.Initial, theirs, mine)
	h.follow(step)
	return h
}

// follow keeps what comes of a message.
func (h *hand) follow(step client.Step) {
	h.t.Helper()
	if step.Fail != api.OK {
		h.t.Fatalf("a side that is played by hand fails with %d", step.Fail)
	}
	for _, k := range step.Keys {
		h.g.Install(k.Level, k.Read, k.Write)
	}
	h.says = append(h.says, step.Out...)
}

// content is the content of frames: the row of the text of their bytes, and the terms that they carry.
func (h *hand) content(frames ...frame.Frame) (api.Term, int) {
	h.t.Helper()
	b, e := frame.Write(frames)
	if e != api.OK {
		h.t.Fatalf("the frames %v are none", frames)
	}
	return h.x.Make(rowKind, append([]api.Term{h.x.Text(b)}, hello.Terms(frames)...)), len(b)
}

// header is what stands ahead of a packet.
func (h *hand) header(level int) header.Header {
	head := header.Header{Kind: level, To: h.to, Width: 4}
	if level != api.App {
		head.Version, head.From = h.version, h.own
	}
	if level == api.Initial {
		head.Token = h.token
	}
	return head
}

// sealed is a packet of a header and a content.
func (h *hand) sealed(head header.Header, content api.Term, n int) []byte {
	h.t.Helper()
	b, e := h.g.Seal(head, h.next[head.Kind], content, n)
	if e != api.OK {
		h.t.Fatalf("a packet of the level %d can't be sealed: %d", head.Kind, e)
	}
	h.next[head.Kind]++
	return b
}

// sends is a packet of frames.
func (h *hand) sends(level int, frames ...frame.Frame) []byte {
	h.t.Helper()
	content, n := h.content(frames...)
	return h.sealed(h.header(level), content, n)
}

// tells is a datagram of all that it has to say, a packet each message, and of nothing if that is nothing.
func (h *hand) tells() []byte {
	h.t.Helper()
	var all []byte
	for _, o := range h.says {
		all = append(all, h.piece(o)...)
	}
	h.says = nil
	return all
}

// piece is a packet of a message.
func (h *hand) piece(o client.Out) []byte {
	h.t.Helper()
	f := frame.Frame{Kind: crypto, At: h.at[o.Level], Data: o.Data}
	h.at[o.Level] += len(o.Data)
	return h.sends(o.Level, f)
}

// reads takes datagrams: each packet has to open, to a content.
func (h *hand) reads(l ...[]byte) []packet {
	h.t.Helper()
	var all []packet
	for _, b := range l {
		split, e := header.Split(b)
		if e != api.OK || len(b) > api.MaxDatagram {
			h.t.Fatalf("P22.2: a datagram of %d bytes: %d", len(b), e)
		}
		for _, p := range split {
			o, e := h.g.Open(p)
			if e != api.OK {
				h.t.Fatalf("P22.2: a packet of the level %d does not open: %d", p.Header.Kind, e)
			}
			got := packet{header: p.Header, level: o.Level, number: o.Number, frames: h.frames(o), size: len(p.Head) + len(p.Body)}
			h.takes(got)
			all = append(all, got)
		}
	}
	return all
}

// frames are those of a content, which has to have its form.
func (h *hand) frames(o guard.Opened) []frame.Frame {
	h.t.Helper()
	row, _ := h.x.Look(o.Content)
	if row.Kind != rowKind || len(row.Parts) < 1 || len(row.Parts) > 16 {
		h.t.Fatalf("P22.2: a packet's content is %v", row)
	}
	text, _ := h.x.Look(row.Parts[0])
	l, e := frame.Read([]byte(text.Text))
	if text.Kind != textKind || e != api.OK || !slices.Equal(hello.Terms(l), row.Parts[1:]) || o.Size != len(text.Text) {
		h.t.Fatalf("P22.2: a packet's content is %v: %v, of %d bytes", row, l, o.Size)
	}
	return l
}

// takes lets the messages come that are in a packet.
func (h *hand) takes(p packet) {
	h.t.Helper()
	for _, f := range p.frames {
		if f.Kind != crypto {
			continue
		}
		h.in[p.level].Put(f.At, f.Data)
		for msg, e := h.in[p.level].Next(); e == api.OK; msg, e = h.in[p.level].Next() {
			h.follow(h.handle(p.level, msg))
		}
	}
}

// of tells the frames of a kind that stand in packets.
func of(l []packet, kind int) []frame.Frame {
	var all []frame.Frame
	for _, p := range l {
		for _, f := range p.frames {
			if f.Kind == kind {
				all = append(all, f)
			}
		}
	}
	return all
}

// at tells the packets of a level.
func at(l []packet, level int) []packet {
	return slices.DeleteFunc(slices.Clone(l), func(p packet) bool { return p.level != level })
}

// acks tells the spans of the acks of a level.
func acks(l []packet, level int) []frame.Span {
	var all []frame.Span
	for _, f := range of(at(l, level), ackKind) {
		all = append(all, f.Spans...)
	}
	return all
}

// ack is an ack of one number.
func ack(numbers ...int) frame.Frame {
	f := frame.Frame{Kind: ackKind}
	for _, n := range numbers {
		f.Spans = append(f.Spans, frame.Span{From: n, To: n})
	}
	return f
}

// datum is one of the data.
func datum(number int, h api.Term) frame.Frame {
	return frame.Frame{Kind: dataKind, Count: number, Term: h}
}

// Stages of a talk, of which the one side is played by hand.
const (
	fresh  = iota // nothing has come
	shaken        // a client has the server's hello, a server the client's: they write at the level 2
	ended         // a client is done; a server is not yet
	met           // both are done, and confirmed
)

// client is a client at a stage, and its server, that is played by hand.
func (w *house) client(t *testing.T, stage int) (*conn.Conn, *hand) {
	t.Helper()
	c, h := w.dials(), w.byHost(t)
	if stage == fresh {
		return c, h
	}
	h.reads(c.Poll(1)...)
	c.Deliver(h.piece(h.says[0]), 1)
	h.says = h.says[1:]
	if stage == shaken {
		return c, h
	}
	c.Deliver(h.tells(), 1)
	if stage == ended {
		return c, h
	}
	h.reads(c.Poll(1)...)
	c.Deliver(h.tells(), 1)
	c.Deliver(h.sends(api.App, frame.Frame{Kind: doneKind}), 1)
	h.reads(c.Poll(1)...)
	return c, h
}

// server is a server at a stage, and its client, that is played by hand.
func (w *house) server(t *testing.T, stage int) (*conn.Conn, *hand) {
	t.Helper()
	s, h := w.accepts(), w.byGuest(t)
	if stage == fresh {
		return s, h
	}
	s.Deliver(h.wide(h.tells()), 1)
	h.reads(s.Poll(1)...)
	h.to = w.name
	if stage == shaken || stage == ended {
		return s, h
	}
	s.Deliver(h.tells(), 1)
	h.reads(s.Poll(1)...)
	return s, h
}

// wide is a datagram that has 1000 bytes at least.
func (h *hand) wide(b []byte) []byte {
	h.t.Helper()
	if len(b) >= 1000 {
		return b
	}
	return append(h.sends(api.Initial, frame.Frame{Kind: padding, Count: 1000 - len(b)}), b...)
}
