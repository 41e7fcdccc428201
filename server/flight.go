package server

import (
	"shibboleth/api"
	"shibboleth/client"
	"shibboleth/hello"
	"shibboleth/kinds"
	"shibboleth/params"
	"shibboleth/sched"
	"shibboleth/shake"
)

// flight is all that a server says behind a client's hello.
type flight struct {
	*Server
	step client.Step
	has  client.Facts // the server's facts, as soon as all of it is said: up to there the table may have no room
}

// fly says it, to who has that share.
func (f *flight) fly(share api.Term) client.Step {
	if f.has.Early {
		f.keys(api.Early, f.talk.EarlyTraffic(), 0)
	}
	f.shake(share)
	f.tell()
	if f.has.Ticket == 0 {
		f.prove()
	}
	f.say(api.Handshake, hello.Msg{Kind: kinds.Finished, Mac: f.talk.Finished(f.talk.Server)})
	f.has.Flight = f.talk.Transcript
	f.has.Client, f.has.Server = f.talk.MainTraffic()
	f.keys(api.App, 0, f.has.Server)
	f.facts = f.has
	f.waits = forFinished
	return f.step
}

// keys tells a level's secrets.
func (f *flight) keys(level int, read, write api.Term) {
	f.step.Keys = append(f.step.Keys, client.Keys{Level: level, Read: read, Write: write})
}

// say puts a message behind what was said, and lets it go out.
func (f *flight) say(level int, m hello.Msg) {
	b := hello.Write(m)
	f.talk.Hear(b)
	f.step.Out = append(f.step.Out, client.Out{Level: level, Data: b})
}

// shake says the server's hello; behind it both sides have the same secrets.
func (f *flight) shake(share api.Term) {
	random := shake.Made(f.table.Secret())
	secret := shake.Made(f.table.Secret())
	own := shake.Made(f.table.Make(kinds.Public, []api.Term{secret}))
	f.say(api.Initial, hello.Msg{Kind: kinds.ServerHello, Random: random, Share: own, Version: f.has.Version, Flag: f.has.Ticket != 0})
	f.talk.Shake(secret, share)
	f.keys(api.Handshake, f.talk.Client, f.talk.Server)
}

// tell says its params.
func (f *flight) tell() {
	tells := f.tells
	tells.Chosen = f.has.Version
	f.has.Mine = params.Write(tells)
	f.say(api.Handshake, hello.Msg{Kind: kinds.Params, Params: f.has.Mine, Flag: f.has.Early})
}

// prove says its name, and that it is whose it is.
func (f *flight) prove() {
	f.say(api.Handshake, hello.Msg{Kind: kinds.Name, Name: f.config.Name})
	said := shake.Made(sched.Signed(f.table, f.talk.Transcript))
	proof := shake.Made(f.table.Make(kinds.Signed, []api.Term{f.config.Secret, said}))
	f.say(api.Handshake, hello.Msg{Kind: kinds.Proof, Mac: proof})
}
