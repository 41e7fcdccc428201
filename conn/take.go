package conn

import (
	"bytes"
	"slices"

	"shibboleth/api"
	"shibboleth/client"
	"shibboleth/fields"
	"shibboleth/frame"
	"shibboleth/header"
	"shibboleth/hello"
	"shibboleth/kinds"
)

// Deliver takes a datagram.
func (c *Conn) Deliver(b []byte, now int) {
	if c == nil {
		return
	}
	c.in += len(b)
	defer func() {
		if fault := recover(); fault != nil {
			c.fails(fault.(api.Errno))
		}
	}()
	if !c.client && now < 0 { // no message may come to a server then, and none should be lost
		return
	}
	if c.start != nil && !c.ended() {
		c.special(b)
	}
	l, _ := header.Split(b)
	for _, p := range l {
		if c.ended() {
			return
		}
		c.packet(p, now)
	}
}

// packet takes a packet, or passes it over. What ends the side is a panic of an api.Errno.
func (c *Conn) packet(p header.Packet, now int) {
	if !c.isMeant(p.Header) {
		return
	}
	o, e := c.guard.Open(p)
	if e != api.OK {
		return
	}
	frames, is := c.frames(o.Content)
	if !is {
		return
	}
	c.meet(p.Header)
	x := opened{Conn: c, level: o.Level, now: now}
	if asks := x.do(frames); asks && o.Level != api.Early {
		c.spaces[o.Level].owe(o.Number)
	}
}

// isMeant: is a packet of this talk, as far as its header tells?
func (c *Conn) isMeant(h header.Header) bool {
	if h.Kind != api.App && h.Version != c.version {
		return false
	}
	first := h.Kind == api.Initial || h.Kind == api.Early
	return bytes.Equal(h.To, c.own) || !c.client && first && bytes.Equal(h.To, c.aim)
}

// frames tells what a content is; false, if it is none.
func (c *Conn) frames(content api.Term) ([]frame.Frame, bool) {
	row, _ := c.table.Look(content)
	if row.Kind != kinds.Row || len(row.Parts) == 0 {
		return nil, false
	}
	text, _ := c.table.Look(row.Parts[0])
	l, e := frame.Read([]byte(text.Text)) // no other kind has bytes, and no bytes are no frames
	return l, e == api.OK && slices.Equal(hello.Terms(l), row.Parts[1:])
}

// meet does what comes of the first packets that are opened.
func (c *Conn) meet(h header.Header) {
	if c.start != nil {
		c.peer = h.From
		c.start = nil
	}
	if !c.client && !c.shown && h.Kind == api.Handshake {
		c.shown = true
		c.leave(api.Initial)
	}
}

// opened is a packet that was opened, at a level, and when it came.
type opened struct {
	*Conn
	level, now int
}

// do does its frames, in order, and tells if it asks to be acknowledged.
func (o *opened) do(frames []frame.Frame) (asks bool) {
	acts := o.acts()
	for _, f := range frames {
		act, may := acts[f.Kind]
		fields.Want(may, api.ErrProto)
		act(f)
		if o.closed {
			return false
		}
		asks = asks || f.Kind != kinds.Padding && f.Kind != kinds.Ack && f.Kind != kinds.Close
	}
	return asks
}

// acts tells what the frames do that may be at its level.
func (o *opened) acts() map[int]func(frame.Frame) {
	acts := map[int]func(frame.Frame){kinds.Padding: o.pass, kinds.Ping: o.pass}
	if o.level != api.Early {
		acts[kinds.Ack] = o.ack
		acts[kinds.Crypto] = o.crypto
		acts[kinds.Close] = o.close
	}
	if o.level == api.Early || o.level == api.App {
		acts[kinds.Data] = o.takeData
	}
	if o.level == api.App {
		acts[kinds.Token] = o.takeToken
		acts[kinds.Done] = o.done
	}
	return acts
}

func (o *opened) pass(frame.Frame) {}

func (o *opened) ack(f frame.Frame) { o.spaces[o.level].acknowledge(f.Spans) }

func (o *opened) close(frame.Frame) { o.closed = true }

func (o *opened) takeData(f frame.Frame) {
	o.data.take(Got{Number: f.Count, Term: f.Term, Early: o.level == api.Early})
}

// takeToken takes what a server gives for later; a server has no use for one.
func (o *opened) takeToken(f frame.Frame) {
	if o.client {
		o.token = f.Term
	}
}

// done lets a client be confirmed; a server that reads one is without it.
func (o *opened) done(frame.Frame) {
	o.confirmed = true
	o.leave(api.Handshake)
}

// crypto takes a piece, and does the messages that are whole by it.
func (o *opened) crypto(f frame.Frame) {
	in := &o.spaces[o.level].in
	e := in.Put(f.At, f.Data)
	fields.Want(e == api.OK, e)
	for {
		msg, e := in.Next()
		if e == api.ErrShort {
			return
		}
		fields.Want(e == api.OK, e)
		o.follow(o.handle(o.level, msg, o.now))
	}
}

// follow does what comes of a message. One that fails is a panic of an api.Errno.
func (c *Conn) follow(step client.Step) {
	fields.Want(step.Fail == api.OK, step.Fail)
	for _, k := range step.Keys {
		c.guard.Install(k.Level, k.Read, k.Write)
		if c.client && k.Level == api.App {
			c.leave(api.Early)
			c.free()
		}
	}
	if !c.client && !c.confirmed && c.facts().Done {
		c.finish()
	}
	for _, o := range step.Out {
		c.spaces[o.Level].say(o.Data)
	}
	c.passes = append(c.passes, step.Passes...)
}

// finish is what a server does that is done.
func (c *Conn) finish() {
	c.confirmed = true
	c.leave(api.Early)
	c.leave(api.Handshake)
	c.spaces[api.App].add(frame.Frame{Kind: kinds.Done})
	if _, is := c.table.Look(c.token); is {
		c.spaces[api.App].add(frame.Frame{Kind: kinds.Token, Term: c.token})
	}
	c.free()
}

// leave lets a level be gone, and what was to be said there. What comes in stays: the packet with which it goes may have more of it.
func (c *Conn) leave(level int) {
	c.guard.Drop(level)
	s := &c.spaces[level]
	s.owes, s.items, s.sent = false, nil, nil
}
