package conn

import (
	"bytes"

	"shibboleth/api"
	"shibboleth/choose"
	"shibboleth/fields"
	"shibboleth/ideal"
	"shibboleth/special"
)

// special takes a packet without a key, if it is one: a client that has opened no packet may begin anew.
func (c *Conn) special(b []byte) {
	if r, e := special.ReadRetry(b); e == api.OK {
		c.retry(r)
	}
	if l, e := special.ReadList(b); e == api.OK {
		c.list(l)
	}
}

// retry begins anew with a Retry's name and its token.
func (c *Conn) retry(r special.Retry) {
	s := c.start
	if s.again || r.Version != c.version || !bytes.Equal(r.To, c.own) || !special.Tagged(c.table, s.goal, r) {
		return
	}
	s.again, s.retry = true, r.From
	c.aim = r.From
	c.proof = ideal.Number(r.Token)
	c.begin()
}

// list begins anew with a version that the server has; where it offers none of them, that is a panic of an api.Errno.
func (c *Conn) list(l special.List) {
	s := c.start
	if s.again || s.listed || !bytes.Equal(l.To, c.own) || !bytes.Equal(l.From, c.aim) {
		return
	}
	version, e := choose.React(l.Versions, s.config.Versions, c.version)
	if e == api.ErrProto { // it has the version that was used: that is no reason to say so
		return
	}
	fields.Want(e == api.OK, e)
	s.listed = true
	s.config.Early = false // it was of the version that is no more
	c.version = version
	c.begin()
}
