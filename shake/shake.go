// Package shake is what both sides of a handshake reckon alike: the transcript of what was said, and the secrets that follow of it.
package shake

import (
	"shibboleth/api"
	"shibboleth/fields"
	"shibboleth/kinds"
	"shibboleth/sched"
	"shibboleth/term"
)

// Talk is what a side reckons with. A term for which the table has no room is a panic of an api.Errno: who handles a message recovers it once, for all terms.
type Talk struct {
	Table          *term.Table
	Transcript     api.Term // behind what was said last
	Client, Server api.Term // of shaken's traffic
	early          api.Term
	main           api.Term
}

// Begin is a talk in which nothing was said.
func Begin(t *term.Table) Talk {
	return Talk{Table: t, Transcript: Made(sched.Begin(t))}
}

// Made tells the same term; it panics with api.ErrFull for the one that could not be made.
func Made(h api.Term) api.Term {
	fields.Want(h != 0, api.ErrFull)
	return h
}

// Hear puts a message behind what was said.
func (x *Talk) Hear(msg []byte) {
	x.Transcript = Made(sched.Next(x.Table, x.Transcript, msg))
}

// Resumes puts the secret of the ticket with which it goes on; 0 without one.
func (x *Talk) Resumes(secret api.Term) {
	x.early = Made(sched.Early(x.Table, secret))
}

// EarlyTraffic tells the secret of early's traffic, behind the client's hello.
func (x *Talk) EarlyTraffic() api.Term {
	return Made(sched.EarlyTraffic(x.Table, x.early, x.Transcript))
}

// Binder tells the ticket's mac of a hello that has none yet.
func (x *Talk) Binder(short []byte) api.Term {
	return Made(sched.Binder(x.Table, x.early, sched.Next(x.Table, x.Transcript, short)))
}

// Shake takes the own secret and the other side's share, behind both hellos.
func (x *Talk) Shake(secret, share api.Term) {
	shared := x.Table.Make(kinds.Shared, []api.Term{secret, share})
	shaken := Made(sched.Shaken(x.Table, x.early, shared))
	x.Client, x.Server = sched.ShakenTraffic(x.Table, shaken, x.Transcript)
	Made(x.Client)
	Made(x.Server)
	x.main = Made(sched.Main(x.Table, shaken))
}

// Finished tells the mac of what was said, by the secret of a side's traffic.
func (x *Talk) Finished(side api.Term) api.Term {
	return Made(sched.Finished(x.Table, side, x.Transcript))
}

// MainTraffic tells both sides' secrets of main's traffic, behind the server's finished.
func (x *Talk) MainTraffic() (client, server api.Term) {
	client, server = sched.MainTraffic(x.Table, x.main, x.Transcript)
	return Made(client), Made(server)
}

// Resume tells the secret of a ticket to come, behind the client's finished.
func (x *Talk) Resume() api.Term {
	return Made(sched.Resume(x.Table, x.main, x.Transcript))
}

// IsPublic: is it a public term?
func IsPublic(t *term.Table, h api.Term) bool {
	n, _ := t.Look(h)
	return n.Kind == kinds.Public
}
