package client_test

import (
	"bytes"
	"reflect"
	"slices"
	"testing"

	"shibboleth/api"
	"shibboleth/client"
	"shibboleth/hello"
	"shibboleth/params"
	"shibboleth/sched"
	"shibboleth/term"
)

// host answers a client by hand, in the document's words.
type host struct {
	x       *term.Table
	secret  api.Term // with which it signs
	name    string
	version int // that it picks
	takes   bool
	early   bool
	tells   params.Params
	own     []byte
	client  client.Config
	mine    []byte                    // the client's params
	change  func(i int, m *hello.Msg) // what is changed of a message ahead of its being said

	begun                      []byte // the client's hello
	heard                      api.Term
	clientHs, serverHs         api.Term
	clientApp, serverApp, main api.Term
	flight                     api.Term
	said                       []client.Out
}

// answering is a host that answers a client that is given b, and picks 2 of what it offers.
func answering(b begin, s api.Term) *host {
	h := &host{x: b.x, secret: s, name: "host", version: 2, own: []byte("host's own"), client: b.c}
	h.client.Versions = slices.Clone(b.c.Versions)
	h.tells = params.Params{
		Idle: 3, Data: 4,
		HasGoal: true, Goal: slices.Clone(b.goal),
		HasOwn: true, Own: h.own,
		HasRetry: b.again,
		Chosen:   2, Versions: []int{9, 2, 1, 3},
	}
	if b.again {
		h.tells.Retry = slices.Clone(b.retry)
	}
	return h
}

// taking is a host that takes the client's ticket, and its early data if they come.
func taking(b begin, s api.Term, early bool) *host {
	h := answering(b, s)
	h.version, h.takes, h.early = 1, true, early
	h.tells.Chosen, h.tells.Versions = 1, []int{9, 1, 2, 3}
	return h
}

// say is a message more.
func (h *host) say(level int, m hello.Msg) {
	if h.change != nil {
		h.change(len(h.said), &m)
	}
	b := hello.Write(m)
	h.heard = sched.Next(h.x, h.heard, b)
	h.said = append(h.said, client.Out{Level: level, Data: b})
}

// answer says all that a server says behind a client's hello.
func (h *host) answer(msg []byte) {
	m, _ := hello.Read(msg)
	h.begun = msg
	h.mine = m.Params
	h.heard = sched.Next(h.x, sched.Begin(h.x), msg)
	secret := h.x.Secret()
	h.say(api.Initial, hello.Msg{Kind: serverHello, Random: h.x.Secret(), Share: h.x.Make(public, []api.Term{secret}), Version: h.version, Flag: h.takes})
	early := sched.Early(h.x, 0)
	if h.takes {
		early = sched.Early(h.x, h.client.Secret)
	}
	shaken := sched.Shaken(h.x, early, h.x.Make(shared, []api.Term{secret, m.Share}))
	h.clientHs, h.serverHs = sched.ShakenTraffic(h.x, shaken, h.heard)
	h.say(api.Handshake, hello.Msg{Kind: paramsKind, Params: params.Write(h.tells), Flag: h.early})
	if !h.takes {
		h.say(api.Handshake, hello.Msg{Kind: nameKind, Name: h.name})
		h.say(api.Handshake, hello.Msg{Kind: proofKind, Mac: h.x.Make(signed, []api.Term{h.secret, sched.Signed(h.x, h.heard)})})
	}
	h.say(api.Handshake, hello.Msg{Kind: finished, Mac: sched.Finished(h.x, h.serverHs, h.heard)})
	h.flight = h.heard
	h.main = sched.Main(h.x, shaken)
	h.clientApp, h.serverApp = sched.MainTraffic(h.x, h.main, h.heard)
}

// end tells what the client says in the end, and what is behind it: the transcript and the resumption secret.
func (h *host) end() (msg []byte, transcript, resume api.Term) {
	msg = hello.Write(hello.Msg{Kind: finished, Mac: sched.Finished(h.x, h.clientHs, h.flight)})
	transcript = sched.Next(h.x, h.flight, msg)
	return msg, transcript, sched.Resume(h.x, h.main, transcript)
}

// steps tells the steps that the document asks for at each message that is said.
func (h *host) steps() []client.Step {
	msg, _, _ := h.end()
	l := make([]client.Step, len(h.said))
	l[0].Keys = []client.Keys{{Level: api.Handshake, Read: h.serverHs, Write: h.clientHs}}
	l[len(l)-1].Keys = []client.Keys{{Level: api.App, Read: h.serverApp, Write: h.clientApp}}
	l[len(l)-1].Out = []client.Out{{Level: api.Handshake, Data: msg}}
	return l
}

// facts tells what the document says that a client that is done has.
func (h *host) facts() client.Facts {
	_, transcript, resume := h.end()
	f := client.Facts{
		Done: true, Peer: h.client.Name, Version: h.version,
		Flight: h.flight, Transcript: transcript,
		Mine: h.mine, Theirs: params.Write(h.tells),
		Client: h.clientApp, Server: h.serverApp, Resume: resume,
		Early: h.early,
	}
	if h.takes {
		f.Ticket = h.client.Ticket
	}
	return f
}

// goes lets all that was said come, and holds what comes of it against the document's words.
func (h *host) goes(t *testing.T, c *client.Client) {
	t.Helper()
	for i, want := range h.steps() {
		if f := c.Facts(); !reflect.DeepEqual(f, client.Facts{}) {
			t.Errorf("P20.2: facts ahead of the message %d: %v", i, f)
		}
		msg := append(make([]byte, 0, 2100), h.said[i].Data...)
		peer := append(make([]byte, 0, 40), h.own...)
		s := c.Handle(h.said[i].Level, msg, peer)
		if !reflect.DeepEqual(s, want) {
			t.Fatalf("P20.2: the message %d: %v, not %v", i, s, want)
		}
		if !bytes.Equal(msg, h.said[i].Data) || !bytes.Equal(peer, h.own) || slices.Max(msg[len(msg):2100]) > 0 || slices.Max(peer[len(peer):40]) > 0 {
			t.Errorf("R4: the message %d was changed", i)
		}
		clear(msg)
		clear(peer)
	}
	if f := c.Facts(); !reflect.DeepEqual(f, h.facts()) {
		t.Errorf("P20.2: facts %v, not %v", f, h.facts())
	}
}
