package server

import (
	"bytes"

	"shibboleth/api"
	"shibboleth/choose"
	"shibboleth/client"
	"shibboleth/fields"
	"shibboleth/hello"
	"shibboleth/kinds"
	"shibboleth/params"
	"shibboleth/sched"
	"shibboleth/shake"
	"shibboleth/ticket"
)

// stage is what a server waits for.
type stage int

const (
	forHello stage = iota
	forFinished
	forNothing
)

// letter is a message that has come, the version of its packets, and when it came.
type letter struct {
	hello.Msg
	raw, peer []byte
	used, now int
}

// turn is which message is to come, at which level, and what it does.
type turn struct {
	level, kind int
	take        func(letter) client.Step
}

// turn tells what the next message does. Whatever take finds wrong is a panic of an api.Errno.
func (s *Server) turn() turn {
	return [...]turn{
		forHello:    {api.Initial, kinds.ClientHello, s.takeHello},
		forFinished: {api.Handshake, kinds.Finished, s.takeFinished},
		forNothing:  {kind: kinds.None}, // no message has it
	}[s.waits]
}

func (s *Server) takeHello(in letter) client.Step {
	theirs, _ := params.Read(in.Params) // layer 14 has looked at them
	fields.Want(theirs.HasOwn && bytes.Equal(theirs.Own, in.peer), api.ErrProto)
	fields.Want(!theirs.HasGoal && !theirs.HasRetry && theirs.Chosen == in.used, api.ErrProto)
	fields.Want(shake.IsPublic(s.table, in.Share), api.ErrProto)
	version := choose.Pick(s.config.Versions, theirs.Versions)
	fields.Want(version != 0, api.ErrVersion)
	pass, taken := s.redeem(in, version)
	fields.Want(!taken || s.binds(pass.Secret, in), api.ErrProto)
	early := taken && in.Flag && in.used == pass.Version && s.config.Store.Try(in.Ticket, pass.Time, in.now) == api.OK
	s.talk = shake.Begin(s.table)
	s.talk.Hear(in.raw)
	s.talk.Resumes(pass.Secret)
	f := flight{Server: s, has: client.Facts{Version: version, Theirs: in.Params, Early: early}}
	if taken {
		f.has.Ticket = in.Ticket
	}
	return f.fly(in.Share)
}

// redeem tells what a hello's ticket says, if it is taken for a version.
func (s *Server) redeem(in letter, version int) (ticket.Ticket, bool) {
	pass, e := ticket.Redeem(s.table, s.config.Key, in.Ticket, in.now)
	if e != api.OK || pass.Version != version {
		return ticket.Ticket{}, false
	}
	return pass, true
}

// binds: is a hello's mac its ticket's? Where the table has no room for what it would be of, nobody has made it: there is no mac of 0.
func (s *Server) binds(secret api.Term, in letter) bool {
	short := sched.Next(s.table, sched.Begin(s.table), hello.Short(in.raw))
	return sched.Binds(s.table, sched.Early(s.table, secret), short, in.Mac)
}

func (s *Server) takeFinished(in letter) client.Step {
	fields.Want(sched.Finishes(s.table, s.talk.Client, s.talk.Transcript, in.Mac), api.ErrSeal)
	s.talk.Hear(in.raw)
	resume := s.talk.Resume()
	pass := ticket.Ticket{Version: s.facts.Version, Time: in.now, Life: s.config.Life, Secret: resume}
	goes := shake.Made(ticket.Issue(s.table, s.config.Key, pass))
	// Nothing is put ahead of this: up to here there may be no room.
	s.facts.Done = true
	s.facts.Transcript = s.talk.Transcript
	s.facts.Resume = resume
	s.waits = forNothing
	return client.Step{
		Out:  []client.Out{{Level: api.App, Data: hello.Write(hello.Msg{Kind: kinds.Ticket, Ticket: goes, Life: s.config.Life})}},
		Keys: []client.Keys{{Level: api.App, Read: s.facts.Client}},
	}
}
