package conn

import (
	"slices"

	"shibboleth/api"
	"shibboleth/fields"
	"shibboleth/frame"
	"shibboleth/kinds"
	"shibboleth/params"
)

// data are those that a side sends, and those that it takes.
type data struct {
	limit int        // below which the numbers of what it takes have to be
	many  int        // that it was given to send
	waits []api.Term // what it was given till the level 3 is free
	free  bool

	below int              // all with a number below are taken
	above map[int]struct{} // the others that are
	got   []Got            // since it was asked last
}

// Send sends a term.
func (c *Conn) Send(h api.Term) api.Errno {
	if c == nil {
		return api.ErrArg
	}
	if _, is := c.table.Look(h); !is {
		return api.ErrArg
	}
	if c.ended() {
		return api.ErrState
	}
	if c.data.many >= c.most() {
		return api.ErrFull
	}
	f := datum(c.data.many, h)
	c.data.many++
	if c.data.free {
		c.spaces[api.App].add(f)
		return api.OK
	}
	c.data.waits = append(c.data.waits, h)
	if c.writes(api.Early) {
		c.spaces[api.Early].add(f)
	}
	return api.OK
}

// most tells how many data it may send.
func (c *Conn) most() int {
	if theirs := c.facts().Theirs; len(theirs) > 0 {
		p, _ := params.Read(theirs) // the layers 20 and 21 have looked at them
		return p.Data
	}
	if c.client {
		return c.data.limit
	}
	return 0
}

// datum is the frame of one of the data.
func datum(number int, h api.Term) frame.Frame {
	return frame.Frame{Kind: kinds.Data, Count: number, Term: h}
}

// hurry lets a client's data be due at the level 1, if it writes there.
func (c *Conn) hurry() {
	if c.writes(api.Early) {
		c.spaces[api.Early].add(c.data.frames()...)
	}
}

// free lets the data that wait be due at the level 3, as many as the peer takes.
func (c *Conn) free() {
	l := c.data.frames()
	c.spaces[api.App].add(l[:min(len(l), c.most())]...)
	c.data.waits = nil
	c.data.free = true
}

// frames tells those of the data that wait.
func (d *data) frames() []frame.Frame {
	var l []frame.Frame
	for number, h := range d.waits {
		l = append(l, datum(number, h))
	}
	return l
}

// take takes one of the data, the first time it comes. One beyond the limit is a panic of an api.Errno.
func (d *data) take(x Got) {
	fields.Want(x.Number < d.limit, api.ErrProto)
	if _, is := d.above[x.Number]; is || x.Number < d.below {
		return
	}
	d.mark(x.Number)
	d.got = append(d.got, x)
}

// mark keeps that a number is taken.
func (d *data) mark(number int) {
	if d.above == nil {
		d.above = map[int]struct{}{}
	}
	d.above[number] = struct{}{}
	for _, is := d.above[d.below]; is; _, is = d.above[d.below] {
		delete(d.above, d.below)
		d.below++
	}
}

// Recv tells what was taken since it was asked last.
func (c *Conn) Recv() []Got {
	if c == nil {
		return nil
	}
	l := slices.Clone(c.data.got)
	c.data.got = nil
	return l
}
