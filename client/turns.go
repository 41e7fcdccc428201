package client

import (
	"bytes"
	"slices"

	"shibboleth/api"
	"shibboleth/choose"
	"shibboleth/fields"
	"shibboleth/hello"
	"shibboleth/ideal"
	"shibboleth/kinds"
	"shibboleth/params"
	"shibboleth/sched"
	"shibboleth/shake"
)

// stage is what a client waits for.
type stage int

const (
	forHello stage = iota
	forParams
	forName
	forProof
	forFinished
	forTickets
)

// letter is a message that has come.
type letter struct {
	hello.Msg
	raw, peer []byte
}

// turn is which message is to come, at which level, and what it does.
type turn struct {
	level, kind int
	take        func(letter) Step
}

// turn tells what the next message does. Whatever take finds wrong is a panic of an api.Errno.
func (c *Client) turn() turn {
	return [...]turn{
		forHello:    {api.Initial, kinds.ServerHello, c.takeHello},
		forParams:   {api.Handshake, kinds.Params, c.takeParams},
		forName:     {api.Handshake, kinds.Name, c.takeName},
		forProof:    {api.Handshake, kinds.Proof, c.takeProof},
		forFinished: {api.Handshake, kinds.Finished, c.takeFinished},
		forTickets:  {api.App, kinds.Ticket, c.takeTicket},
	}[c.waits]
}

func (c *Client) takeHello(in letter) Step {
	resumes := c.config.Ticket != 0 && in.Version == c.config.Version
	fields.Want(slices.Contains(c.config.Versions, in.Version), api.ErrVersion)
	fields.Want(shake.IsPublic(c.talk.Table, in.Share), api.ErrProto)
	fields.Want(!in.Flag || resumes, api.ErrProto)
	c.facts.Version = in.Version
	c.talk.Hear(in.raw)
	if in.Flag {
		c.facts.Ticket = c.config.Ticket
		c.talk.Resumes(c.config.Secret)
	} else {
		c.talk.Resumes(0)
	}
	c.talk.Shake(c.secret, in.Share)
	c.waits = forParams
	return Step{Keys: []Keys{{Level: api.Handshake, Read: c.talk.Server, Write: c.talk.Client}}}
}

func (c *Client) takeParams(in letter) Step {
	p, _ := params.Read(in.Params) // layer 14 has looked at them
	fields.Want(p.HasGoal && bytes.Equal(p.Goal, c.goal), api.ErrProto)
	fields.Want(p.HasOwn && bytes.Equal(p.Own, in.peer), api.ErrProto)
	fields.Want(p.HasRetry == c.again && bytes.Equal(p.Retry, c.retry), api.ErrProto)
	fields.Want(p.Chosen == c.facts.Version, api.ErrVersion)
	fields.Want(choose.Verify(c.config.Versions, p.Versions, p.Chosen) == api.OK, api.ErrVersion)
	fields.Want(!in.Flag || c.facts.Ticket != 0 && c.config.Early, api.ErrProto)
	c.facts.Theirs = in.Params
	c.facts.Early = in.Flag
	c.talk.Hear(in.raw)
	c.waits = forName
	if c.facts.Ticket != 0 {
		c.waits = forFinished // who has the ticket's secret needs no name and no proof
	}
	return Step{}
}

func (c *Client) takeName(in letter) Step {
	fields.Want(in.Name == c.config.Name, api.ErrName)
	c.talk.Hear(in.raw)
	c.waits = forProof
	return Step{}
}

func (c *Client) takeProof(in letter) Step {
	// Where the table has no room for what is signed, nobody has signed it: 0 is not in what is signed.
	said := sched.Signed(c.talk.Table, c.talk.Transcript)
	fields.Want(ideal.Signs(c.talk.Table, c.config.Public, said, in.Mac), api.ErrName)
	c.talk.Hear(in.raw)
	c.waits = forFinished
	return Step{}
}

func (c *Client) takeFinished(in letter) Step {
	fields.Want(sched.Finishes(c.talk.Table, c.talk.Server, c.talk.Transcript, in.Mac), api.ErrSeal)
	c.talk.Hear(in.raw)
	c.facts.Flight = c.talk.Transcript
	c.facts.Client, c.facts.Server = c.talk.MainTraffic()
	own := c.say(api.Handshake, hello.Msg{Kind: kinds.Finished, Mac: c.talk.Finished(c.talk.Client)})
	c.facts.Transcript = c.talk.Transcript
	c.facts.Resume = c.talk.Resume()
	c.facts.Done = true // at last: up to here there may be no room
	c.waits = forTickets
	return Step{Out: []Out{own}, Keys: []Keys{{Level: api.App, Read: c.facts.Server, Write: c.facts.Client}}}
}

func (c *Client) takeTicket(in letter) Step {
	return Step{Passes: []Pass{{Ticket: in.Ticket, Secret: c.facts.Resume, Version: c.facts.Version, Life: in.Life}}}
}
