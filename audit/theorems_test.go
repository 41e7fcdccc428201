package audit

import (
	"slices"
	"testing"

	"shibboleth/api"
	"shibboleth/client"
	"shibboleth/conn"
	"shibboleth/world"
)

// Here worlds are put together of facts, so that also what no world comes to can be told of.

// has is what a client has whose talk has that number.
func has(n int) client.Facts {
	h := api.Term(100 * n)
	return client.Facts{
		Done: true, Peer: "s1", Version: 1, Flight: h + 1, Transcript: h + 2, Mine: []byte{1, byte(n)}, Theirs: []byte{2, byte(n)},
		Client: h + 3, Server: h + 4, Resume: h + 5, Ticket: h + 6, Early: true,
	}
}

// other is what its partner has.
func other(f client.Facts) client.Facts {
	f.Peer = ""
	f.Mine, f.Theirs = f.Theirs, f.Mine
	return f
}

// halfway is what a side has that waits for the client's finished.
func halfway(f client.Facts) client.Facts {
	f.Done, f.Transcript, f.Resume = false, 0, 0
	return f
}

// made is a world of clients that offer the version 1, and of servers that have it alone.
type made struct {
	scene scene
}

func (m *made) server(l ...client.Facts) *made {
	h := host{versions: []int{1}}
	for _, f := range l {
		h.sides = append(h.sides, side{facts: f})
	}
	m.scene.hosts = append(m.scene.hosts, h)
	return m
}

// clients are of the first server, and come behind all servers.
func (m *made) clients(l ...client.Facts) *made {
	for _, f := range l {
		h := m.scene.hosts[0]
		m.scene.guests = append(m.scene.guests, guest{Client: world.Client{Server: 1, Offers: []int{1}}, facts: f, host: h, partners: partners(f, h.sides)})
	}
	return m
}

// broken tells the words of what does not hold of it.
func (m *made) broken() []string {
	if m.scene.can == nil {
		m.scene.can = func(api.Term) bool { return false }
	}
	var l []string
	for _, x := range theorems() {
		if x.fails(&m.scene) {
			l = append(l, x.word)
		}
	}
	return l
}

// wants holds what is broken of a world against what should be.
func (m *made) wants(t *testing.T, what string, words ...string) {
	t.Helper()
	if got := m.broken(); !slices.Equal(got, words) {
		t.Errorf("P25.1: %s: %v, not %v", what, got, words)
	}
}

// A side is a partner by either of both secrets, if its Flight is there.
func TestP25_1PartnersByEitherSecret(t *testing.T) {
	f := has(1)
	for _, x := range []struct {
		what string
		f    client.Facts
		is   bool
	}{
		{"both secrets", other(f), true},
		{"both secrets, halfway", halfway(other(f)), true},
		{"the client's side's", client.Facts{Flight: 9, Client: f.Client, Server: 8}, true},
		{"the server's side's", client.Facts{Flight: 9, Client: 8, Server: f.Server}, true},
		{"without a Flight", client.Facts{Client: f.Client, Server: f.Server}, false},
		{"the same Flight alone", client.Facts{Done: true, Flight: f.Flight, Client: 8, Server: 9, Resume: f.Resume, Transcript: f.Transcript}, false},
		{"crosswise", client.Facts{Flight: f.Flight, Client: f.Server, Server: f.Client}, false},
		{"nothing", client.Facts{}, false},
	} {
		l := []side{{facts: other(has(2))}, {facts: x.f}, {}, {facts: other(f)}}
		want := []int{2, 4}
		if !x.is {
			want = []int{4}
		}
		if got := partners(f, l); !slices.Equal(got, want) {
			t.Errorf("P25.1: %s: %v, not %v", x.what, got, want)
		}
		if got := partners(halfway(f), l); len(got) != 0 {
			t.Errorf("P25.1: %s: of a client that is not done: %v", x.what, got)
		}
	}
}

func TestP25_1Nothing(t *testing.T) {
	(&made{}).wants(t, "an empty world")
	(&made{}).server().server(client.Facts{}).clients(client.Facts{}, client.Facts{}).wants(t, "nobody is done")
	f := has(1)
	(&made{}).server(other(f), client.Facts{}).clients(f, client.Facts{}).wants(t, "one is done")
	(&made{}).server(other(has(2)), other(has(1))).server(other(has(3))).clients(has(1), has(2)).wants(t, "all are done")
	(&made{}).server(halfway(other(f))).clients(f).wants(t, "the server's side waits")
}

// Each fact counts, but for the peer's name and whether it is done.
func TestP25_1AgreeByFacts(t *testing.T) {
	for _, x := range []struct {
		what   string
		change func(f *client.Facts)
		counts bool // where the partner is done
		always bool // where it is not, too
	}{
		{"nothing", func(f *client.Facts) {}, false, false},
		{"the peer", func(f *client.Facts) { f.Peer = "s2" }, false, false},
		{"the version", func(f *client.Facts) { f.Version = 2 }, true, true},
		{"the Flight", func(f *client.Facts) { f.Flight = 7 }, true, true},
		{"the transcript", func(f *client.Facts) { f.Transcript = 7 }, true, false},
		{"no transcript", func(f *client.Facts) { f.Transcript = 0 }, true, false},
		{"the own params", func(f *client.Facts) { f.Mine = []byte{2, 3} }, true, true},
		{"more own params", func(f *client.Facts) { f.Mine = append(slices.Clone(f.Mine), 0) }, true, true},
		{"no own params", func(f *client.Facts) { f.Mine = nil }, true, true},
		{"the other's params", func(f *client.Facts) { f.Theirs = []byte{1, 3} }, true, true},
		{"no params of the other", func(f *client.Facts) { f.Theirs = nil }, true, true},
		{"params the other way round", func(f *client.Facts) { f.Mine, f.Theirs = f.Theirs, f.Mine }, true, true},
		{"the client's secret", func(f *client.Facts) { f.Client = 7 }, true, true},
		{"the server's secret", func(f *client.Facts) { f.Server = 7 }, true, true},
		{"the resumption secret", func(f *client.Facts) { f.Resume = 7 }, true, false},
		{"no resumption secret", func(f *client.Facts) { f.Resume = 0 }, true, false},
		{"the ticket", func(f *client.Facts) { f.Ticket = 7 }, true, true},
		{"no ticket", func(f *client.Facts) { f.Ticket = 0 }, true, true},
		{"early data", func(f *client.Facts) { f.Early = false }, true, true},
	} {
		for _, done := range []bool{true, false} {
			f := other(has(2))
			if !done {
				f.Done = false // what it has else is asked nevertheless, but for two
			}
			x.change(&f)
			var want []string
			if done && x.counts || !done && x.always {
				want = []string{"agree"}
			}
			(&made{}).server(other(has(1)), f).clients(has(1), has(2)).wants(t, x.what, want...)
		}
	}
}

func TestP25_1AgreeByPartners(t *testing.T) {
	f := has(1)
	(&made{}).server().clients(f).wants(t, "no partner", "agree")
	(&made{}).server(client.Facts{}, other(has(2))).clients(f).wants(t, "others alone", "agree")
	(&made{}).server().server(other(f)).clients(f).wants(t, "a side of another server", "agree")
	(&made{}).server(other(f)).clients(halfway(f)).wants(t, "not done")
	second := other(f)
	second.Flight, second.Client, second.Early = 9, 8, false
	(&made{}).server(other(f), second).clients(f).wants(t, "two partners", "agree")
	(&made{}).server(second, other(has(2)), other(f)).clients(has(2), f).wants(t, "two partners of the second one", "agree")
}

// Two of a kind may not have the same Flight; none at all is no Flight.
func TestP25_1Unique(t *testing.T) {
	f := has(1)
	f.Early = false
	(&made{}).server(other(f)).clients(f, f).wants(t, "two clients", "unique")
	(&made{}).server(other(f)).clients(f, has(1)).wants(t, "two clients, of which the second one says more", "agree", "unique")
	(&made{}).server(other(f)).clients(f, halfway(f)).wants(t, "two clients, of which one is not done")
	second := f
	second.Client, second.Server = 8, 9
	(&made{}).server(other(f), other(second)).clients(f).wants(t, "two sides", "unique")
	(&made{}).server(other(f), halfway(other(second))).clients(f).wants(t, "two sides, of which one is not done", "unique")
	(&made{}).server(other(f)).server(other(f)).clients(f).wants(t, "sides of two servers", "unique")
	(&made{}).server().server(client.Facts{}, other(has(5))).server(halfway(other(has(5)))).wants(t, "sides of two servers without a client", "unique")
	(&made{}).server(client.Facts{}, client.Facts{}).server(client.Facts{}, client.Facts{}).wants(t, "no Flight")
}

// What a client has sent is secret in any case; what a side of a server has, if it is the partner of one that is done.
func TestP25_1Secret(t *testing.T) {
	for _, x := range []struct {
		what   string
		learns api.Term
		is     bool
	}{
		{"nothing", 0, false},
		{"what was never sent", 99, false},
		{"the first one of a client that is done", 10, true},
		{"the last one of a client that is done", 12, true},
		{"that of a client that is not done", 20, true},
		{"the first one of a partner", 30, true},
		{"the last one of a partner", 31, true},
		{"that of a second partner", 60, true},
		{"that of a side of nobody's", 40, false},
		{"that of a side of another server", 50, false},
	} {
		second := other(has(1))
		second.Flight, second.Server, second.Early = 9, 8, false
		m := (&made{}).server(other(has(1)), other(has(7)), second).server(other(has(8)))
		sides := m.scene.hosts[0].sides
		sides[0].Sent, sides[1].Sent, sides[2].Sent = []api.Term{30, 31}, []api.Term{40}, []api.Term{60}
		m.scene.hosts[1].sides[0].Sent = []api.Term{50}
		m.clients(has(1), client.Facts{})
		m.scene.guests[0].Sent, m.scene.guests[1].Sent = []api.Term{10, 11, 12}, []api.Term{20}
		m.scene.can = func(h api.Term) bool { return h == x.learns }
		want := []string{"agree"} // there are two partners
		if x.is {
			want = append(want, "secret")
		}
		m.wants(t, x.what, want...)
	}
}

// What was taken was sent by the other one, by that number, and is taken once.
func TestP25_1Honest(t *testing.T) {
	sent := []api.Term{11, 12, 13}
	for _, x := range []struct {
		what string
		got  []conn.Got
		is   bool
	}{
		{"nothing", nil, true},
		{"all", []conn.Got{{Number: 0, Term: 11}, {Number: 1, Term: 12}, {Number: 2, Term: 13}}, true},
		{"all, early or not, in another order", []conn.Got{{Number: 2, Term: 13, Early: true}, {Number: 0, Term: 11}, {Number: 1, Term: 12, Early: true}}, true},
		{"one", []conn.Got{{Number: 1, Term: 12}}, true},
		{"one by another number", []conn.Got{{Number: 1, Term: 11}}, false},
		{"one of nobody's", []conn.Got{{Number: 0, Term: 11}, {Number: 1, Term: 99}}, false},
		{"one behind the last number", []conn.Got{{Number: 3, Term: 13}}, false},
		{"one far behind", []conn.Got{{Number: 0, Term: 11}, {Number: 1 << 40, Term: 11}}, false},
		{"one of no term", []conn.Got{{Number: 3, Term: 0}}, false},
		{"one twice", []conn.Got{{Number: 1, Term: 12}, {Number: 0, Term: 11}, {Number: 1, Term: 12}}, false},
		{"one twice, once early", []conn.Got{{Number: 1, Term: 12, Early: true}, {Number: 1, Term: 12}}, false},
	} {
		for _, where := range []string{"the client", "its partner", "the client, its partner halfway", "a client that is not done", "a side of nobody's", "one of two partners"} {
			f := has(1)
			p, second := other(f), other(has(2))
			want := []string{"honest"}
			switch where {
			case "the client, its partner halfway":
				p = halfway(p)
			case "a client that is not done":
				f, want = client.Facts{}, nil
			case "a side of nobody's":
				want = nil
			case "one of two partners":
				second = halfway(other(f))
				second.Flight, second.Early = 7, false
				want = []string{"agree"}
			}
			if x.is {
				want = slices.DeleteFunc(want, func(word string) bool { return word == "honest" })
			}
			m := (&made{}).server(second, p)
			sides := m.scene.hosts[0].sides
			sides[1].Sent = sent
			switch where {
			case "its partner", "one of two partners":
				sides[1].Got = x.got
			case "a side of nobody's":
				sides[0].Got = x.got
			}
			m.clients(f)
			m.scene.guests[0].Sent = sent
			switch where {
			case "the client", "the client, its partner halfway", "a client that is not done":
				m.scene.guests[0].Got = x.got
			}
			m.wants(t, where+" has taken "+x.what, want...)
		}
	}
}

// What one of both has sent is no excuse for what it takes itself.
func TestP25_1HonestByTheOtherOne(t *testing.T) {
	for _, mine := range []bool{true, false} {
		m := (&made{}).server(other(has(1)), other(has(2)))
		sides := m.scene.hosts[0].sides
		got := []conn.Got{{Number: 0, Term: 11}}
		if mine {
			sides[0].Sent, sides[0].Got = []api.Term{11}, got
		}
		m.clients(has(1))
		if !mine {
			m.scene.guests[0].Sent, m.scene.guests[0].Got = []api.Term{11}, got
		}
		m.wants(t, "it takes what it has sent", "honest")
		m = (&made{}).server(other(has(1)), other(has(2)))
		m.scene.hosts[0].sides[0].Got = got
		m.clients(has(1), has(2))
		m.scene.guests[1].Sent = []api.Term{11}
		m.wants(t, "it takes what another client has sent", "honest")
	}
}

// A ticket is for early data once at each server.
func TestP25_1Early(t *testing.T) {
	early := func(n int, ticket api.Term, is bool) client.Facts {
		f := other(has(n))
		f.Ticket, f.Early = ticket, is
		return f
	}
	for _, x := range []struct {
		what      string
		one, more []client.Facts // of two servers
		is        bool
	}{
		{"one", []client.Facts{early(1, 7, true)}, nil, false},
		{"two tickets", []client.Facts{early(1, 7, true), early(2, 8, true)}, nil, false},
		{"one ticket twice, with early data once", []client.Facts{early(1, 7, true), early(2, 7, false), early(3, 7, false)}, nil, false},
		{"one ticket twice, without early data", []client.Facts{early(1, 7, false), early(2, 7, false)}, nil, false},
		{"one ticket at two servers", []client.Facts{early(1, 7, true)}, []client.Facts{early(2, 7, true)}, false},
		{"one ticket twice", []client.Facts{early(1, 7, true), early(2, 7, true)}, nil, true},
		{"one ticket twice, with others between", []client.Facts{early(1, 8, true), early(2, 7, true), early(3, 9, true), early(4, 7, true)}, nil, true},
		{"one ticket twice at the second server", []client.Facts{early(1, 8, true)}, []client.Facts{early(2, 7, true), {}, early(3, 7, true)}, true},
		{"one ticket twice, halfway", []client.Facts{halfway(early(1, 7, true)), halfway(early(2, 7, true))}, nil, true},
	} {
		var want []string
		if x.is {
			want = []string{"early"}
		}
		(&made{}).server(x.one...).server(x.more...).wants(t, x.what, want...)
	}
}

// The version is what the server likes best of what the client offers.
func TestP25_1Version(t *testing.T) {
	for _, x := range []struct {
		what           string
		server, offers []int
		version        int
		done, is       bool
	}{
		{"the server's first one", []int{2, 1}, []int{1, 2}, 2, true, false},
		{"the client's first one", []int{2, 1}, []int{1, 2}, 1, true, true},
		{"the only one of both", []int{3, 1}, []int{1, 2}, 1, true, false},
		{"one that the client offers alone", []int{3, 1}, []int{1, 2}, 2, true, true},
		{"one that the server has alone", []int{3, 1}, []int{1, 2}, 3, true, true},
		{"one of nobody's", []int{1}, []int{1}, 9, true, true},
		{"one where there is none", []int{1}, []int{2}, 2, true, true},
		{"one that is not done", []int{2, 1}, []int{1, 2}, 0, false, false},
	} {
		f := has(1)
		f.Version = x.version
		m := (&made{}).server(other(f))
		m.scene.hosts[0].versions = x.server
		if !x.done {
			f = client.Facts{}
		}
		m.clients(f)
		m.scene.guests[0].Offers = x.offers
		var want []string
		if x.is {
			want = []string{"version"}
		}
		m.wants(t, x.what, want...)
	}
}

// All words, in their order.
func TestP25_1Order(t *testing.T) {
	m := (&made{}).server(other(has(1)), other(has(1)), other(has(2)))
	m.scene.hosts[0].versions = []int{9}
	m.scene.hosts[0].sides[2].Got = []conn.Got{{Number: 0, Term: 5}}
	m.clients(has(1), has(2))
	m.scene.guests[0].Sent = []api.Term{4}
	m.scene.can = func(h api.Term) bool { return h == 4 }
	m.wants(t, "all", "agree", "unique", "secret", "honest", "early", "version")
}
