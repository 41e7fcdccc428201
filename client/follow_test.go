package client_test

import (
	"math/rand/v2"
	"testing"

	"shibboleth/api"
	"shibboleth/client"
	"shibboleth/frame"
	"shibboleth/hello"
	"shibboleth/know"
	"shibboleth/server"
	"shibboleth/strike"
	"shibboleth/term"
)

// world is a server, clients of it, and somebody between who hears each message, and lets come to whom he wants what he wants, as long as he can make it.
type world struct {
	t       *testing.T
	r       *rand.Rand
	x       *term.Table
	config  server.Config
	public  api.Term
	mind    *know.Mind
	his     server.Config // a server of his own, of the same name
	clients []*player
	talks   []*server.Server // of the server
	heard   []client.Out
	passes  []client.Pass
}

// player is a client, and how many messages it has taken.
type player struct {
	*client.Client
	hello  []byte
	answer []client.Out // what the server said behind its hello, the first time
	begun  int          // the version with which it began
	short  bool
	failed bool
	taken  int
	early  bool
}

const now = 10

func newWorld(t *testing.T, r *rand.Rand) *world {
	x := term.New()
	w := &world{t: t, r: r, x: x, mind: know.New(x)}
	w.config = server.Config{Name: "host", Secret: x.Secret(), Versions: []int{1, 2}, Key: x.Secret(), Life: 50, Store: strike.New(50, 50)}
	w.public = x.Make(public, []api.Term{w.config.Secret})
	w.his = server.Config{Name: "host", Secret: x.Secret(), Versions: []int{1, 2}, Key: x.Secret(), Life: 50}
	w.mind.Learn([]api.Term{w.public, w.his.Secret, w.his.Key})
	return w
}

// hear lets him hear a step's messages: though most of them are sealed, he may read them here.
func (w *world) hear(s client.Step) {
	for _, o := range s.Out {
		w.heard = append(w.heard, o)
		w.mind.Learn(hello.Terms([]frame.Frame{{Kind: 6, Data: o.Data}}))
	}
}

// learns lets him know each secret that comes of a call of his own.
func (w *world) learns(call func()) {
	size := w.x.Size()
	call()
	for h := size + 1; h <= w.x.Size(); h++ {
		if n, _ := w.x.Look(api.Term(h)); n.Kind == secret {
			w.mind.Learn([]api.Term{api.Term(h)})
		}
	}
}

// dial is a client more, with one of the tickets that there are or without.
func (w *world) dial() {
	versions := [][]int{{1}, {2}, {1, 2}, {2, 1}}[w.r.IntN(4)]
	c := client.Config{Name: "host", Public: w.public, Versions: versions, Idle: w.r.IntN(3)}
	version := versions[w.r.IntN(len(versions))]
	if len(w.passes) > 0 && w.r.IntN(2) == 0 {
		p := w.passes[w.r.IntN(len(w.passes))]
		c.Ticket, c.Secret, c.Version, c.Early = p.Ticket, p.Secret, p.Version, p.Version == version && w.r.IntN(2) == 0
	}
	x, s := client.New(w.x, c, version, []byte("own"), []byte("goal"), nil, false)
	if x == nil {
		w.t.Fatalf("P20.3: %v", s)
	}
	w.clients = append(w.clients, &player{Client: x, hello: s.Out[0].Data, begun: version, early: c.Early})
	w.hear(s)
}

// serve lets a client's hello come to the server, and to his own one.
func (w *world) serve(p *player) {
	s, _ := server.New(w.x, w.config, []byte("peer"), []byte("goal"), nil, false)
	step := s.Handle(api.Initial, p.hello, []byte("own"), p.begun, now)
	w.talks = append(w.talks, s)
	w.hear(step)
	if p.answer == nil {
		p.answer = step.Out
	}
	w.learns(func() {
		mine, _ := server.New(w.x, w.his, []byte("peer"), []byte("goal"), nil, false)
		w.hear(mine.Handle(api.Initial, p.hello, []byte("own"), p.begun, now))
	})
}

// waits tells the kind of message that a client waits for.
func (p *player) waits() int {
	if kinds := []int{serverHello, paramsKind}; p.taken < len(kinds) {
		return kinds[p.taken]
	}
	if p.short {
		return []int{finished, ticketKind}[min(p.taken-2, 1)]
	}
	return []int{nameKind, proofKind, finished, ticketKind}[min(p.taken-2, 3)]
}

// choose is a message that a client may wait for: mostly the one that the server has said.
func (w *world) choose(p *player) (client.Out, bool) {
	kind := p.waits()
	if p.taken < len(p.answer) && w.r.IntN(15) > 0 {
		return p.answer[p.taken], true
	}
	var l []client.Out
	for _, o := range w.heard {
		if int(o.Data[0]) == kind {
			l = append(l, o)
		}
	}
	if len(l) == 0 {
		return client.Out{}, false
	}
	if kind == ticketKind || w.r.IntN(3) > 0 {
		l = l[max(0, len(l)-4):]
	}
	o := l[w.r.IntN(len(l))]
	if w.r.IntN(6) == 0 {
		o = w.alter(o)
	}
	return o, true
}

// alter is a message with something else in it that he can make.
func (w *world) alter(o client.Out) client.Out {
	m, _ := hello.Read(o.Data)
	other, _ := hello.Read(w.heard[w.r.IntN(len(w.heard))].Data)
	some := []api.Term{other.Share, other.Random, other.Mac, other.Ticket, m.Mac, m.Share}
	for _, h := range []*api.Term{&m.Random, &m.Share, &m.Mac, &m.Ticket} {
		if x := some[w.r.IntN(len(some))]; *h != 0 && x != 0 && w.r.IntN(2) == 0 && w.mind.Can(x) {
			*h = x
		}
	}
	if w.r.IntN(3) == 0 {
		m.Flag = !m.Flag
	}
	if m.Version != 0 && w.r.IntN(3) == 0 {
		m.Version = 3 - m.Version
	}
	if b := hello.Write(m); b != nil {
		o.Data = b
	}
	return o
}

// come lets a message come to a client.
func (w *world) come(p *player, o client.Out) {
	m, _ := hello.Read(o.Data)
	s := p.Handle(o.Level, o.Data, []byte("peer"))
	if s.Fail != api.OK {
		p.failed = true
		return
	}
	p.short = p.short || m.Kind == serverHello && m.Flag
	p.taken++
	w.hear(s)
	for _, o := range s.Out {
		for _, talk := range w.talks {
			if talk.Facts().Flight == p.Facts().Flight {
				w.hear(talk.Handle(o.Level, o.Data, []byte("own"), 0, now))
			}
		}
	}
	if m.Kind == ticketKind {
		w.passes = append(w.passes, s.Passes...)
	}
}

// holds holds that a client that is done has talked with just one talk of the server, and that he can make none of its secrets.
func (w *world) holds(p *player) (done bool) {
	f := p.Facts()
	if !f.Done {
		return false
	}
	partners := 0
	for _, talk := range w.talks {
		g := talk.Facts()
		if g.Flight != f.Flight {
			continue
		}
		partners++
		same := f.Version == g.Version && f.Client == g.Client && f.Server == g.Server && f.Ticket == g.Ticket && f.Early == g.Early &&
			string(f.Mine) == string(g.Theirs) && string(f.Theirs) == string(g.Mine)
		if !same || g.Done && (f.Transcript != g.Transcript || f.Resume != g.Resume) {
			w.t.Errorf("P20.3: a client has %v, the server %v", f, g)
		}
	}
	if partners != 1 {
		w.t.Errorf("P20.3: a client that is done has %d partners: %v", partners, f)
	}
	for _, h := range []api.Term{f.Client, f.Server, f.Resume} {
		if w.mind.Can(h) {
			w.t.Errorf("P20.3: he can make %d of %v", h, f)
		}
	}
	return true
}

func TestP20_3WhoItTalksWith(t *testing.T) {
	done, failed, resumed, early := 0, 0, 0, 0
	for seed := range 60 {
		w := newWorld(t, rand.New(rand.NewPCG(20, uint64(seed))))
		for range 12 {
			w.dial()
			p := w.clients[len(w.clients)-1]
			w.serve(p)
			for turn := 0; turn < 30 && !p.failed; turn++ {
				if w.r.IntN(20) == 0 {
					w.serve(p) // once more: the server answers twice
				}
				if o, is := w.choose(w.clients[w.r.IntN(len(w.clients))]); is && w.r.IntN(10) == 0 {
					w.come(w.clients[w.r.IntN(len(w.clients))], o)
				}
				if o, is := w.choose(p); is {
					w.come(p, o)
				}
			}
		}
		for _, p := range w.clients {
			if !w.holds(p) {
				failed++
				continue
			}
			done++
			if f := p.Facts(); f.Ticket != 0 {
				resumed++
				if f.Early {
					early++
				}
			}
		}
	}
	t.Logf("%d clients are done, %d of them with a ticket, %d with early data; %d failed", done, resumed, early, failed)
	if done < 50 || resumed < 5 || early < 1 || failed < 50 {
		t.Errorf("P20.3: %d clients are done, %d of them with a ticket, %d with early data; %d failed", done, resumed, early, failed)
	}
}

// A server of the same name that has another secret gets no client done, whatever it says.
func TestP20_3AnotherServer(t *testing.T) {
	for seed := range 20 {
		w := newWorld(t, rand.New(rand.NewPCG(21, uint64(seed))))
		w.dial()
		p := w.clients[0]
		mine, _ := server.New(w.x, w.his, []byte("peer"), []byte("goal"), nil, false)
		for i, o := range mine.Handle(api.Initial, p.hello, []byte("own"), p.begun, now).Out {
			want := api.OK
			if i == 3 {
				want = api.ErrName
			} else if i > 3 {
				want = api.ErrState
			}
			if s := p.Handle(o.Level, o.Data, []byte("peer")); s.Fail != want {
				t.Errorf("P20.3: its message %d: %d, not %d", i, s.Fail, want)
			}
		}
		if p.Facts().Done {
			t.Error("P20.3: it is done")
		}
	}
}
