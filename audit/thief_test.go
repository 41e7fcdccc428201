package audit_test

import (
	"bytes"

	"shibboleth/api"
	"shibboleth/frame"
	"shibboleth/guard"
	"shibboleth/header"
	"shibboleth/hello"
	"shibboleth/params"
	"shibboleth/sched"
	"shibboleth/world"
)

// The kinds of terms, by the document's numbers.
const (
	secretKind = 2
	rowKind    = 3
	publicKind = 7
	sharedKind = 8
	signedKind = 9
	sealedKind = 10
)

// The kinds of frames, and of messages, by the document's numbers.
const (
	padding     = 0
	crypto      = 6
	dataKind    = 8
	clientHello = 1
	serverHello = 2
	paramsKind  = 8
	nameKind    = 11
	proofKind   = 15
	finished    = 20
)

// toServer lets bytes come to a server by hand: if he can make what they carry.
func toServer(w *world.World, s, address int, b []byte) {
	w.Do(world.Act{What: hand, A: s, C: address, Data: b})
}

// toClient lets bytes come to a client by hand: if he can make what they carry.
func toClient(w *world.World, c int, b []byte) {
	w.Do(world.Act{What: hand, A: c, B: 1, Data: b})
}

// name tells a name of a mark, and a number in seven bytes.
func name(mark byte, n int) []byte {
	return []byte{mark, 0, 0, 0, byte(n >> 24), byte(n >> 16), byte(n >> 8), byte(n)}
}

// data is the frame of one of the data.
func data(number int, h api.Term) frame.Frame {
	return frame.Frame{Kind: dataKind, Count: number, Term: h}
}

// packet is one of frames, under a secret. He puts its terms together himself; whether he can, the hand tells.
func packet(w *world.World, h header.Header, write api.Term, number int, l ...frame.Frame) []byte {
	h.Width = 4
	b, _ := frame.Write(l)
	c := w.Table().Make(rowKind, append([]api.Term{w.Table().Text(b)}, hello.Terms(l)...))
	g := guard.New(w.Table())
	g.Install(h.Kind, 0, write)
	all, _ := g.Seal(h, number, c, len(b))
	return all
}

// short is a packet of the level 3.
func short(w *world.World, to []byte, write api.Term, number int, l ...frame.Frame) []byte {
	return packet(w, header.Header{Kind: api.App, To: to}, write, number, l...)
}

// thief is a side that he who stands between plays himself.
type thief struct {
	w      *world.World
	secret api.Term // behind his share
	heard  api.Term
	out    [api.Levels][]frame.Frame
	at     [api.Levels]int
}

func newThief(w *world.World) *thief {
	return &thief{w: w, secret: do(w, makes, secretKind), heard: sched.Begin(w.Table())}
}

// hears puts a message behind what was said.
func (x *thief) hears(msg []byte) {
	x.heard = sched.Next(x.w.Table(), x.heard, msg)
}

// says puts an own message behind what was said, and lets it be sent.
func (x *thief) says(level int, m hello.Msg) {
	b := hello.Write(m)
	x.hears(b)
	x.out[level] = append(x.out[level], frame.Frame{Kind: crypto, At: x.at[level], Data: b})
	x.at[level] += len(b)
}

// share is a message's random and share, of his own.
func (x *thief) share(m hello.Msg) hello.Msg {
	m.Random = do(x.w, makes, secretKind)
	m.Share = do(x.w, makes, publicKind, int(x.secret))
	return m
}

// helloOf reads what the client c has said first; no bytes, if that was not sent. Everybody can read it.
func helloOf(w *world.World, c int) []byte {
	for n := 1; n <= w.Datagrams(); n++ {
		l, _ := header.Split(w.Letter(n))
		for _, p := range l {
			if p.Header.Kind != api.Initial || !bytes.Equal(p.Header.From, name('c', c)) || len(p.Header.Token) > 0 {
				continue
			}
			g := guard.New(w.Table())
			read, _ := sched.First(w.Table(), p.Header.To)
			g.Install(api.Initial, read, 0)
			o, _ := g.Open(p)
			row, _ := w.Table().Look(o.Content)
			if len(row.Parts) == 0 {
				continue
			}
			text, _ := w.Table().Look(row.Parts[0])
			frames, _ := frame.Read([]byte(text.Text))
			for _, f := range frames {
				if f.Kind == crypto && f.At == 0 {
					return f.Data
				}
			}
		}
	}
	return nil
}

// beServer answers the hello of the client c for its server, with the version, signed by a secret; with a ticket's secret it takes the ticket. It tells the main traffic's secrets.
func beServer(w *world.World, c, version int, signs, ticket api.Term) (client, server api.Term) {
	first := helloOf(w, c)
	m, e := hello.Read(first)
	if e != api.OK {
		return 0, 0
	}
	t, x := w.Table(), newThief(w)
	own, goal := name('t', c), name('g', c)
	host, _ := w.Config(guest(w, c).Server)
	x.hears(first)
	x.says(api.Initial, x.share(hello.Msg{Kind: serverHello, Version: version, Flag: ticket != 0}))
	shaken := sched.Shaken(t, sched.Early(t, ticket), t.Make(sharedKind, []api.Term{x.secret, m.Share}))
	_, write := sched.ShakenTraffic(t, shaken, x.heard)
	tells := params.Params{Idle: 1, Data: 9, HasGoal: true, Goal: goal, HasOwn: true, Own: own, Chosen: version, Versions: []int{version}}
	x.says(api.Handshake, hello.Msg{Kind: paramsKind, Params: params.Write(tells)})
	if ticket == 0 {
		x.says(api.Handshake, hello.Msg{Kind: nameKind, Name: host.Server.Name})
		x.says(api.Handshake, hello.Msg{Kind: proofKind, Mac: t.Make(signedKind, []api.Term{signs, sched.Signed(t, x.heard)})})
	}
	x.says(api.Handshake, hello.Msg{Kind: finished, Mac: sched.Finished(t, write, x.heard)})
	_, open := sched.First(t, goal)
	used := guest(w, c).Talk.State().Version
	toClient(w, c, packet(w, header.Header{Kind: api.Initial, Version: used, To: name('c', c), From: own}, open, 0, x.out[api.Initial]...))
	toClient(w, c, packet(w, header.Header{Kind: api.Handshake, Version: used, To: name('c', c), From: own}, write, 0, x.out[api.Handshake]...))
	return sched.MainTraffic(t, sched.Main(t, shaken), x.heard)
}

// beClient comes to the server s with a ticket of the version 1, its secret, and early data; n is his address, and tells his names.
func beClient(w *world.World, s, n int, ticket, secret api.Term, l ...frame.Frame) {
	t, x := w.Table(), newThief(w)
	own, goal := name('u', n), name('v', n)
	tells := params.Params{Idle: 1, Data: 9, HasOwn: true, Own: own, Chosen: 1, Versions: []int{1}}
	m := x.share(hello.Msg{Kind: clientHello, Flag: true, Ticket: ticket, Mac: ticket, Params: params.Write(tells)})
	early := sched.Early(t, secret)
	m.Mac = sched.Binder(t, early, sched.Next(t, x.heard, hello.Short(hello.Write(m))))
	x.says(api.Initial, m)
	first, _ := sched.First(t, goal)
	filled := append(x.out[api.Initial], frame.Frame{Kind: padding, Count: 1000})
	toServer(w, s, n, packet(w, header.Header{Kind: api.Initial, Version: 1, To: goal, From: own}, first, 0, filled...))
	toServer(w, s, n, packet(w, header.Header{Kind: api.Early, Version: 1, To: goal, From: own}, sched.EarlyTraffic(t, early, x.heard), 0, l...))
}
