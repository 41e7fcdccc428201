package conn_test

import (
	"fmt"
	"math/rand/v2"
	"reflect"
	"testing"

	"shibboleth/api"
	"shibboleth/conn"
	"shibboleth/special"
)

// way is what lies between two sides: datagrams are lost, come twice, late, in another order.
type way struct {
	t     *testing.T
	r     *rand.Rand
	w     *house
	sides [2]*conn.Conn
	on    [2][][]byte // what is on its way to each side
	sent  [2][]api.Term
	got   [2][]conn.Got
	loss  int // of 10
	ups   int
	early int
}

// newWay is one of the kinds of talk that there are.
func newWay(t *testing.T, seed int) *way {
	r := rand.New(rand.NewPCG(22, uint64(seed)))
	w := newHouse()
	if r.IntN(3) > 0 {
		w = withTicket()
		w.guest.Early = r.IntN(3) > 0
		if r.IntN(4) == 0 {
			w.host.Store = nil // it takes the ticket, but no early data
		}
		if r.IntN(6) == 0 {
			w.host.Key = w.x.Secret() // not even the ticket
		}
	}
	w.guest.Data, w.host.Data = 60, 60
	v := &way{t: t, r: r, w: w, loss: r.IntN(9)}
	v.sides[0] = w.dials()
	v.send(0)
	v.anew()
	v.sides[1] = w.accepts()
	return v
}

// anew lets the client begin anew, or not, ahead of the server's beginning.
func (v *way) anew() {
	c := v.sides[0]
	if v.r.IntN(4) == 0 {
		c.Poll(1)
		v.w.host.Versions = []int{2}
		c.Deliver(v.w.list(2), 1)
		v.w.version = 2
	}
	if v.r.IntN(3) == 0 {
		c.Poll(1)
		c.Deliver(special.WriteRetry(v.w.retry()), 1)
		v.w.again = true
	}
}

// send sends some from a side.
func (v *way) send(i int) {
	for range v.r.IntN(4) {
		h := v.w.x.Secret()
		if v.sides[i].Send(h) == api.OK {
			v.sent[i] = append(v.sent[i], h)
		}
	}
}

// take takes what came to a side: it has to be sent by the other one, by its number.
func (v *way) take(i int) {
	v.t.Helper()
	l := v.sides[i].Recv()
	for _, x := range l {
		if sent := v.sent[1-i]; x.Number >= len(sent) || sent[x.Number] != x.Term {
			v.t.Errorf("P22.3: the side %d took %v, which was not sent", i, x)
		}
		if x.Early {
			v.early++
		}
	}
	v.got[i] = append(v.got[i], l...)
}

// post lets what a side has to say go on its way.
func (v *way) post(i int) {
	l := v.sides[i].Poll(1)
	for _, b := range l {
		if len(b) > api.MaxDatagram {
			v.t.Errorf("P22.2: a datagram of %d bytes", len(b))
		}
	}
	v.on[1-i] = append(v.on[1-i], l...)
}

// come lets some of what is on its way to a side come, or be lost.
func (v *way) come(i int) {
	v.r.Shuffle(len(v.on[i]), func(a, b int) { v.on[i][a], v.on[i][b] = v.on[i][b], v.on[i][a] })
	for range v.r.IntN(len(v.on[i]) + 1) {
		b := v.on[i][0]
		if v.r.IntN(6) > 0 {
			v.on[i] = v.on[i][1:]
		}
		if v.r.IntN(10) >= v.loss {
			v.sides[i].Deliver(b, 1)
		}
	}
	v.take(i)
}

// storm does this and that.
func (v *way) storm(turns int) {
	for range turns {
		i := v.r.IntN(2)
		switch v.r.IntN(7) {
		case 0:
			v.send(i)
		case 1:
			if v.sides[i].Update() == api.OK {
				v.ups++
			}
		case 2, 3:
			v.post(i)
		case 4, 5:
			v.come(i)
		case 6:
			v.sides[i].Tick()
		}
	}
}

// calm lets all come in rounds, what is on its way at first.
func (v *way) calm(rounds int) {
	for range rounds {
		for i := range v.sides {
			v.post(i)
		}
		for i := range v.sides {
			for _, b := range v.on[i] {
				v.sides[i].Deliver(b, 1)
			}
			v.on[i] = nil
			v.take(i)
		}
		for _, x := range v.sides {
			x.Tick()
		}
	}
}

// once holds that each side took all that the other one sent, once each.
func (v *way) once(what string) {
	v.t.Helper()
	for i, got := range v.got {
		seen := map[int]int{}
		for _, x := range got {
			seen[x.Number]++
		}
		if len(got) != len(v.sent[1-i]) || len(seen) != len(got) {
			v.t.Errorf("P22.3: %s: the side %d took %d of %d, %d numbers", what, i, len(got), len(v.sent[1-i]), len(seen))
		}
		if s := v.sides[i].State(); !s.Done || !s.Confirmed || s.Closed || s.Fail != api.OK {
			v.t.Errorf("P22.3: %s: the side %d is %v", what, i, s)
		}
	}
	f, g := v.sides[0].Facts(), v.sides[1].Facts()
	f.Peer, f.Mine, f.Theirs = "", f.Theirs, f.Mine
	if !reflect.DeepEqual(f, g) || f.Version != v.w.host.Versions[0] {
		v.t.Errorf("P22.3: %s: the facts %v, %v", what, f, g)
	}
}

func TestP22_3AllComesAtLast(t *testing.T) {
	ups, early, resumed := 0, 0, 0
	for seed := range 400 {
		v := newWay(t, seed)
		v.storm(30 + v.r.IntN(300))
		v.calm(8)
		v.once(fmt.Sprintf("the way %d", seed))
		// Where nothing is due, nothing is said.
		for i, x := range v.sides {
			if l := x.Poll(1); len(l) != 0 {
				t.Errorf("P22.3: the way %d: the side %d goes on", seed, i)
			}
		}
		ups += v.ups
		early += v.early
		if v.sides[0].Facts().Ticket != 0 {
			resumed++
		}
		if s := v.sides[0].State(); len(s.Passes) != 1 || s.Token != v.w.token {
			t.Errorf("P22.3: the way %d: %v", seed, s)
		}
	}
	t.Logf("%d updates, %d early data, %d talks go on with a ticket", ups, early, resumed)
	if ups < 100 || early < 100 || resumed < 50 {
		t.Errorf("P22.3: %d updates, %d early data, %d talks go on with a ticket", ups, early, resumed)
	}
}

// P6: without losses both sides are confirmed in four rounds, and what was sent ahead is taken.
func TestP22_3Rounds(t *testing.T) {
	for seed := range 100 {
		v := newWay(t, seed)
		v.calm(5)
		v.once(fmt.Sprintf("the way %d", seed))
	}
}

// The tickets that a client gets let a talk go on.
func TestP22_3TicketAfterTicket(t *testing.T) {
	w := newHouse()
	for i := range 5 {
		c, s := w.dials(), w.accepts()
		h := w.x.Secret()
		c.Send(h)
		for range 5 {
			carry(c, s)
		}
		got := s.Recv()
		if f := c.Facts(); !c.State().Confirmed || f.Early != (i > 0) || f.Ticket != w.guest.Ticket || len(got) != 1 || got[0] != (conn.Got{Term: h, Early: i > 0}) {
			t.Errorf("P22.3: the talk %d: %v, %v", i, f, got)
		}
		pass := c.State().Passes[0]
		w.guest.Ticket, w.guest.Secret, w.guest.Version, w.guest.Early = pass.Ticket, pass.Secret, pass.Version, true
	}
}

// Whatever bytes come, nothing breaks, and what is taken was sent.
func TestR1AnyBytes(t *testing.T) {
	for seed := range 200 {
		v := newWay(t, 1000+seed)
		for range 60 {
			v.storm(6)
			i := v.r.IntN(2)
			if len(v.on[i]) == 0 {
				continue
			}
			b := append([]byte(nil), v.on[i][v.r.IntN(len(v.on[i]))]...)
			switch v.r.IntN(4) {
			case 0:
				b = b[:v.r.IntN(len(b)+1)]
			case 1:
				b[v.r.IntN(len(b))] ^= byte(1 + v.r.IntN(255))
			case 2:
				b = append(b, make([]byte, v.r.IntN(50))...)
			case 3:
				v.sides[1-i].Deliver(b, v.r.IntN(5)-2) // back to who said it
				continue
			}
			v.sides[i].Deliver(b, v.r.IntN(5)-2)
			v.take(i)
		}
		v.calm(12)
		for _, x := range v.sides {
			if s := x.State(); s.Fail != api.OK && s.Fail != api.ErrProto {
				t.Errorf("P22.3: the way %d: %v", seed, s)
			}
		}
	}
}

// R5: what it answers hangs on what was done alone.
func TestR5TheSameTwice(t *testing.T) {
	for seed := range 30 {
		var told [2]string
		for i := range told {
			v := newWay(t, seed)
			v.storm(200)
			v.calm(6)
			told[i] = fmt.Sprint(v.sides[0].State(), v.sides[1].State(), v.got, v.sides[0].Facts(), v.w.x.Size())
		}
		if told[0] != told[1] {
			t.Errorf("R5: the way %d:\n%s\n%s", seed, told[0], told[1])
		}
	}
}
