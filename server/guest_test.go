package server_test

import (
	"bytes"
	"fmt"
	"reflect"
	"slices"
	"testing"

	"shibboleth/api"
	"shibboleth/client"
	"shibboleth/hello"
	"shibboleth/params"
	"shibboleth/sched"
	"shibboleth/server"
	"shibboleth/term"
	"shibboleth/ticket"
)

// guest begins a talk by hand, in the document's words.
type guest struct {
	x       *term.Table
	b       begin
	p       params.Params
	peer    []byte // from where its packets come
	version int    // of its packets
	now     int
	life    ticket.Ticket // what its ticket says
	pass    api.Term      // its ticket; 0 without
	early   bool
	change  func(m *hello.Msg) // what is changed of its hello, ahead of its mac
	mac     api.Term           // if it is not 0, it stands in the place of the right one

	secret             api.Term
	hello              []byte
	want               wanted
	heard              api.Term
	clientHs, serverHs api.Term
	main               api.Term
}

// wanted is what a server has to make of a hello.
type wanted struct {
	version      int
	taken, early bool
}

// coming is a guest that offers what a server has.
func coming(b begin) *guest {
	return &guest{
		x: b.x, b: b, peer: []byte("guest's"), version: 3, now: 100,
		p:    params.Params{Idle: 5, Data: 6, HasOwn: true, Own: []byte("guest's"), Chosen: 3, Versions: []int{3, 1, 2}},
		want: wanted{version: 2},
	}
}

// withTicket lets it come with a ticket, issued by the server's key at 90, for 20.
func (g *guest) withTicket(version int) *guest {
	g.life = ticket.Ticket{Version: version, Time: 90, Life: 20, Secret: g.x.Secret()}
	g.pass = ticket.Issue(g.x, g.b.c.Key, g.life)
	g.want.taken = version == g.want.version
	return g
}

// says writes its hello.
func (g *guest) says() []byte {
	g.secret = g.x.Secret()
	m := hello.Msg{Kind: clientHello, Random: g.x.Secret(), Share: g.x.Make(public, []api.Term{g.secret}), Flag: g.early, Ticket: g.pass, Params: params.Write(g.p)}
	if g.change != nil {
		g.change(&m)
	}
	if m.Ticket != 0 {
		m.Mac = 1
		b := hello.Write(m)
		m.Mac = sched.Binder(g.x, sched.Early(g.x, g.life.Secret), sched.Next(g.x, sched.Begin(g.x), b[:len(b)-4]))
	}
	if g.mac != 0 {
		m.Mac = g.mac
	}
	g.hello = hello.Write(m)
	return g.hello
}

// takes holds a server's first step against the document's words.
func (g *guest) takes(t *testing.T, what string, s *server.Server, step client.Step) {
	t.Helper()
	many := 5
	if g.want.taken {
		many = 3
	}
	if step.Fail != api.OK || len(step.Out) != many || step.Passes != nil {
		t.Fatalf("P21.2: %s: %v", what, step)
	}
	early := sched.Early(g.x, 0)
	if g.want.taken {
		early = sched.Early(g.x, g.life.Secret)
	}
	g.heard = sched.Next(g.x, sched.Begin(g.x), g.hello)
	var keys []client.Keys
	if g.want.early {
		keys = []client.Keys{{Level: api.Early, Read: sched.EarlyTraffic(g.x, early, g.heard)}}
	}
	shaken := g.takesHello(t, what, step.Out[0], early)
	keys = append(keys, client.Keys{Level: api.Handshake, Read: g.clientHs, Write: g.serverHs})
	g.takesFlight(t, what, step.Out[1:])
	g.main = sched.Main(g.x, shaken)
	mine, theirs := sched.MainTraffic(g.x, g.main, g.heard)
	keys = append(keys, client.Keys{Level: api.App, Write: theirs})
	if !reflect.DeepEqual(step.Keys, keys) {
		t.Errorf("P21.2: %s: keys %v, not %v", what, step.Keys, keys)
	}
	f := client.Facts{Version: g.want.version, Flight: g.heard, Mine: params.Write(g.tells()), Theirs: params.Write(g.p), Client: mine, Server: theirs, Early: g.want.early}
	if g.want.taken {
		f.Ticket = g.pass
	}
	if got := s.Facts(); !reflect.DeepEqual(got, f) {
		t.Errorf("P21.2: %s: facts %v, not %v", what, got, f)
	}
}

// takesHello holds a server's hello against the words, and tells the shaken secret behind it.
func (g *guest) takesHello(t *testing.T, what string, o client.Out, early api.Term) api.Term {
	t.Helper()
	m, e := hello.Read(o.Data)
	random, _ := g.x.Look(m.Random)
	share, _ := g.x.Look(m.Share)
	if o.Level != api.Initial || e != api.OK || m.Kind != serverHello || m.Version != g.want.version || m.Flag != g.want.taken {
		t.Fatalf("P21.2: %s: its hello %v, %d, at %d", what, m, e, o.Level)
	}
	if random.Kind != secret || share.Kind != public || m.Random <= g.secret || share.Parts[0] <= m.Random {
		t.Errorf("P21.2: %s: the random is %d %v, the share %d %v", what, m.Random, random, m.Share, share)
	}
	g.heard = sched.Next(g.x, g.heard, o.Data)
	shaken := sched.Shaken(g.x, early, g.x.Make(shared, []api.Term{g.secret, m.Share}))
	g.clientHs, g.serverHs = sched.ShakenTraffic(g.x, shaken, g.heard)
	return shaken
}

// tells are the params that a server has to tell.
func (g *guest) tells() params.Params {
	p := params.Params{
		Idle: g.b.c.Idle, Data: g.b.c.Data, HasGoal: true, Goal: g.b.goal, HasOwn: true, Own: g.b.own,
		HasRetry: g.b.again, Chosen: g.want.version, Versions: g.b.c.Versions,
	}
	if g.b.again {
		p.Retry = g.b.retry
	}
	return p
}

// takesFlight holds what stands behind a server's hello against the words.
func (g *guest) takesFlight(t *testing.T, what string, l []client.Out) {
	t.Helper()
	want := []func() hello.Msg{func() hello.Msg {
		return hello.Msg{Kind: paramsKind, Params: params.Write(g.tells()), Flag: g.want.early}
	}}
	if !g.want.taken {
		want = append(want,
			func() hello.Msg { return hello.Msg{Kind: nameKind, Name: g.b.c.Name} },
			func() hello.Msg {
				return hello.Msg{Kind: proofKind, Mac: g.x.Make(signed, []api.Term{g.b.c.Secret, sched.Signed(g.x, g.heard)})}
			})
	}
	want = append(want, func() hello.Msg { return hello.Msg{Kind: finished, Mac: sched.Finished(g.x, g.serverHs, g.heard)} })
	for i, o := range l {
		if b := hello.Write(want[i]()); o.Level != api.Handshake || !bytes.Equal(o.Data, b) {
			t.Fatalf("P21.2: %s: %d: %x at %d, not %x", what, i, o.Data, o.Level, b)
		}
		g.heard = sched.Next(g.x, g.heard, o.Data)
	}
}

// ends writes its finished, and tells what a server has to make of it.
func (g *guest) ends(now int) (msg []byte, step client.Step, transcript, resume api.Term) {
	msg = hello.Write(hello.Msg{Kind: finished, Mac: sched.Finished(g.x, g.clientHs, g.heard)})
	transcript = sched.Next(g.x, g.heard, msg)
	resume = sched.Resume(g.x, g.main, transcript)
	mine, _ := sched.MainTraffic(g.x, g.main, g.heard)
	pass := ticket.Issue(g.x, g.b.c.Key, ticket.Ticket{Version: g.want.version, Time: now, Life: g.b.c.Life, Secret: resume})
	step.Out = []client.Out{{Level: api.App, Data: hello.Write(hello.Msg{Kind: ticketKind, Ticket: pass, Life: g.b.c.Life})}}
	step.Keys = []client.Keys{{Level: api.App, Read: mine}}
	return msg, step, transcript, resume
}

// goes lets its hello and its finished come, and holds what comes of both against the document's words.
func (g *guest) goes(t *testing.T, what string, s *server.Server) {
	t.Helper()
	if f := s.Facts(); !reflect.DeepEqual(f, client.Facts{}) {
		t.Errorf("P21.2: %s: facts ahead of a hello: %v", what, f)
	}
	g.takes(t, what, s, g.hands(t, s, api.Initial, g.says(), g.now))
	want := s.Facts()
	msg, step, transcript, resume := g.ends(g.now + 7)
	if got := g.hands(t, s, api.Handshake, msg, g.now+7); !reflect.DeepEqual(got, step) {
		t.Errorf("P21.2: %s: at its finished %v, not %v", what, got, step)
	}
	want.Done, want.Transcript, want.Resume = true, transcript, resume
	if f := s.Facts(); !reflect.DeepEqual(f, want) {
		t.Errorf("P21.2: %s: facts %v, not %v", what, f, want)
	}
}

// hands lets a message come, and holds that neither it nor the peer's name is changed.
func (g *guest) hands(t *testing.T, s *server.Server, level int, b []byte, now int) client.Step {
	t.Helper()
	msg := append(make([]byte, 0, 2100), b...)
	peer := append(make([]byte, 0, 40), g.peer...)
	step := s.Handle(level, msg, peer, g.version, now)
	if !bytes.Equal(msg, b) || !bytes.Equal(peer, g.peer) || slices.Max(msg[len(b):2100]) > 0 || slices.Max(peer[len(peer):40]) > 0 {
		t.Errorf("R4: a message was changed: %s", fmt.Sprint(msg, peer))
	}
	clear(msg)
	clear(peer)
	return step
}
