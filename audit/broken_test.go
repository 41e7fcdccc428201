package audit_test

import (
	"slices"
	"testing"

	"shibboleth/api"
	"shibboleth/audit"
	"shibboleth/strike"
	"shibboleth/ticket"
	"shibboleth/world"
)

// Nobody is the server that a client meant, but who has that one's secret: then the client has no partner.
func TestP25_1BrokenAgree(t *testing.T) {
	for _, learns := range []bool{false, true} {
		w := served(1)
		do(w, serve, 1, 0, 9, 9, 9)
		do(w, dial, 1, 1)
		do(w, poll)
		c, _ := w.Config(1)
		signs := do(w, makes, secretKind)
		if learns {
			do(w, leak, 1, ofSigning)
			signs = c.Server.Secret
		}
		client, server := beServer(w, 1, 1, signs, 0)
		if done := guest(w, 1).Talk.Facts().Done; done != learns || len(audit.Partners(w, 1)) != 0 {
			t.Fatalf("P25.2: he learns: %t: %v", learns, audit.Lines(w))
		}
		if !learns {
			wants(t, w, "an answer of nobody's")
			says(t, w, "an answer of nobody's", "c1 s1 v0 sent 0 took 0 failed 15")
			continue
		}
		wants(t, w, "he answers", "agree")
		if f := guest(w, 1).Talk.Facts(); f.Client != client || f.Server != server || !w.Can(client) || !w.Can(server) {
			t.Errorf("P25.2: he does not have the client's secrets: %v", f)
		}
		h := do(w, send, 1)
		wants(t, w, "a term that waits", "agree")
		do(w, poll)
		wants(t, w, "a term that he reads", "agree", "secret")
		toClient(w, 1, short(w, name('c', 1), server, 0, data(0, h)))
		if len(guest(w, 1).Got) != 1 {
			t.Errorf("P25.2: %v", audit.Lines(w))
		}
		wants(t, w, "a client without a partner takes something", "agree", "secret")
	}
}

// With a ticket's secret he is the server, too; what he learns of another one's is nothing.
func TestP25_1BrokenAgreeByATicket(t *testing.T) {
	for _, b := range []int{-1, ofTickets, ofResumption, ofSigning} {
		w := talking(t, 1)
		do(w, dial, 1, 1, 0, 1)
		do(w, poll)
		do(w, leak, 1, b)
		beServer(w, 2, 1, 0, guest(w, 1).Talk.Facts().Resume)
		if b < 0 || b == ofSigning {
			wants(t, w, "he does not have the ticket's secret")
			says(t, w, "he does not have the ticket's secret", "c1 s1 v1 sent 0 took 0 done", "c2 s1 v0 sent 0 took 0", "s1 t1 v1 sent 0 took 0 done")
			continue
		}
		wants(t, w, "he takes the ticket", "agree")
		says(t, w, "he takes the ticket", "c1 s1 v1 sent 0 took 0 done", "c2 s1 v1 sent 0 took 0 done", "s1 t1 v1 sent 0 took 0 done")
	}
}

// Of a client each term counts, also where it is not done; of a server's side those of a partner.
func TestP25_1BrokenSecret(t *testing.T) {
	w := talking(t, 2)
	do(w, dial, 1, 1, 0, 1, 1)
	do(w, send, 3)
	do(w, poll)
	wants(t, w, "early data")
	do(w, leak, 2, ofResumption)
	wants(t, w, "another client's ticket's secret is learnt")
	do(w, leak, 1, ofResumption)
	says(t, w, "a client waits", "c1 s1 v1 sent 0 took 0 done", "c2 s1 v1 sent 0 took 0 done", "c3 s1 v0 sent 1 took 0", "s1 t1 v1 sent 0 took 0 done", "s1 t2 v1 sent 0 took 0 done")
	wants(t, w, "the ticket's secret is learnt", "secret")

	for _, ofServer := range []bool{false, true} {
		w = talking(t, 2)
		what := []int{send, 2}
		if ofServer {
			what = []int{reply, 1, 2}
		}
		do(w, what[0], what[1:]...)
		do(w, leak, 1, ofTraffic)
		do(w, leak, 2, ofTraffic)
		wants(t, w, "a term that waits")
		do(w, poll)
		wants(t, w, "a term that is sent", "secret")
	}

	// A side with whom he himself talks is nobody's partner.
	w = talking(t, 1)
	do(w, leak, 1, ofTickets)
	c, _ := w.Config(1)
	mine := do(w, makes, secretKind)
	beClient(w, 1, 9, ticket.Issue(w.Table(), c.Server.Key, ticket.Ticket{Version: 1, Life: 9, Secret: mine}), mine, data(0, mine))
	says(t, w, "a client of his own", "c1 s1 v1 sent 0 took 0 done", "s1 t1 v1 sent 0 took 0 done", "s1 t2 v0 sent 0 took 1")
	wants(t, w, "a client of his own")
}

// The server's secrets, learnt behind a talk, tell nothing of it.
func TestP25_2StaysSecret(t *testing.T) {
	w := talking(t, 2)
	for n := 1; n <= 2; n++ {
		do(w, send, n)
		do(w, reply, 1, n)
	}
	rounds(w, 2)
	for _, b := range []int{ofSigning, ofTickets, ofResumption} {
		do(w, leak, 1, b)
		wants(t, w, "learnt behind the talk")
	}
	do(w, send, 1)
	rounds(w, 2)
	wants(t, w, "a talk that goes on")
}

// With a talk's secrets he writes to both: by other numbers, other terms.
func TestP25_1BrokenHonest(t *testing.T) {
	for _, toGuest := range []bool{true, false} {
		for _, x := range []struct {
			what   string
			number int
			term   func(sent, other, mine api.Term) api.Term
			words  []string
		}{
			{"what was sent", 1, func(sent, other, mine api.Term) api.Term { return sent }, nil},
			{"what was sent, by another number", 0, func(sent, other, mine api.Term) api.Term { return sent }, []string{"honest"}},
			{"what was sent, behind the last number", 2, func(sent, other, mine api.Term) api.Term { return sent }, []string{"honest"}},
			{"what it has sent itself", 1, func(sent, other, mine api.Term) api.Term { return other }, []string{"honest"}},
			{"a term of his own", 1, func(sent, other, mine api.Term) api.Term { return mine }, []string{"honest"}},
			{"a term of his own, far behind", 999, func(sent, other, mine api.Term) api.Term { return mine }, []string{"honest"}},
		} {
			w := talking(t, 2)
			do(w, leak, 2, ofTraffic)
			var sent, other api.Term
			for range 2 {
				sent, other = do(w, send, 2), do(w, reply, 1, 2)
			}
			if toGuest {
				sent, other = other, sent
			}
			do(w, poll) // he reads them, and nobody else does
			wants(t, w, "he reads", "secret")
			f := guest(w, 2).Talk.Facts()
			d := data(x.number, x.term(sent, other, do(w, makes, secretKind)))
			if toGuest {
				toClient(w, 2, short(w, name('c', 2), f.Server, 60, d))
			} else {
				toServer(w, 1, 2, short(w, name(0, 2), f.Client, 60, d))
			}
			if len(guest(w, 2).Got)+len(w.Peers(1)[1].Got) != 1 {
				t.Errorf("P25.1: %s does not come: %v", x.what, audit.Lines(w))
			}
			wants(t, w, x.what, append([]string{"secret"}, x.words...)[:1+len(x.words)]...)
		}
	}
}

// What he writes without the secrets is not taken.
func TestP25_2Honest(t *testing.T) {
	w := talking(t, 2)
	do(w, leak, 2, ofTraffic)
	x := do(w, makes, secretKind)
	f, g := guest(w, 1).Talk.Facts(), guest(w, 2).Talk.Facts()
	for _, h := range []api.Term{f.Client, f.Server, g.Client, g.Server} {
		toClient(w, 1, short(w, name('c', 1), h, 60, data(0, x)))
		toServer(w, 1, 1, short(w, name(0, 1), h, 60, data(0, x)))
	}
	says(t, w, "by hand", "c1 s1 v1 sent 0 took 0 done", "c2 s1 v1 sent 0 took 0 done", "s1 t1 v1 sent 0 took 0 done", "s1 t2 v1 sent 0 took 0 done")
	wants(t, w, "by hand")
}

// A store that forgets lets a ticket be taken twice; one that does not is that of each server.
func TestP25_1BrokenEarly(t *testing.T) {
	for _, forgets := range []bool{false, true} {
		w := talking(t, 1)
		c, _ := w.Config(1)
		for range 2 {
			do(w, dial, 1, 1, 0, 1, 1)
			rounds(w, 6)
			if forgets {
				*c.Server.Store = *strike.New(9, 9)
			}
		}
		early := 0
		for _, x := range w.Clients() {
			if f := x.Talk.Facts(); f.Early {
				early++
			}
		}
		var want []string
		if forgets {
			want = []string{"early"}
		}
		if early != 1+len(want) || guest(w, 3).Talk.Facts().Ticket != guest(w, 2).Talk.Facts().Ticket {
			t.Fatalf("P25.1: it forgets: %t: %d clients with early data", forgets, early)
		}
		wants(t, w, "one ticket twice", want...)
	}
}

// P3: whoever has a ticket's secret, its server takes early data with it once.
func TestP25_2Early(t *testing.T) {
	for _, b := range []int{-1, ofTickets, ofResumption} {
		w := talking(t, 1)
		p := guest(w, 1).Talk.State().Passes[0]
		do(w, dial, 1, 1, 0, 1, 1)
		do(w, send, 2)
		was := w.Datagrams()
		do(w, poll)
		do(w, leak, 1, b)
		mine := do(w, makes, secretKind)
		for n := 10; n < 20; n++ {
			beClient(w, 1, n, p.Ticket, p.Secret, data(0, mine))
			for k := was + 1; k <= w.Datagrams(); k++ {
				do(w, lead, k, 1, n+50)
			}
		}
		rounds(w, 6)
		early := map[bool]int{}
		for _, x := range w.Peers(1) {
			early[x.Talk.Facts().Early]++
		}
		if early[true] != 1 || early[false] < 10 {
			t.Errorf("P3: leak 1 %d: %v", b, early)
		}
		if l := audit.Broken(w); slices.Contains(l, "early") || slices.Contains(l, "unique") || b < 0 && len(l) > 0 {
			t.Errorf("P25.2: leak 1 %d: broken: %v", b, l)
		}
	}
}

// Tickets of his own are as good as any, each once.
func TestP25_2EarlyByHisOwnTickets(t *testing.T) {
	w := talking(t, 1)
	do(w, leak, 1, ofTickets)
	c, _ := w.Config(1)
	mine := do(w, makes, secretKind)
	for n := 10; n < 40; n++ {
		x := ticket.Ticket{Version: 1, Time: w.Now() - n%3, Life: 5, Secret: mine}
		if x.Time >= 0 {
			beClient(w, 1, n, ticket.Issue(w.Table(), c.Server.Key, x), mine, data(0, mine))
		}
		do(w, tick, n%2)
	}
	tickets := map[api.Term]int{}
	for _, x := range w.Peers(1) {
		if f := x.Talk.Facts(); f.Early {
			tickets[f.Ticket]++
		}
	}
	for h, n := range tickets {
		if n != 1 {
			t.Errorf("P3: early data are taken with %d %d times", h, n)
		}
	}
	if len(tickets) < 10 || len(w.Peers(1)) < len(tickets)+10 {
		t.Errorf("P3: %d tickets, %d sides", len(tickets), len(w.Peers(1)))
	}
	wants(t, w, "tickets of his own")
}

// Whoever answers in the server's place may take what it would not; nobody else can.
func TestP25_1BrokenVersion(t *testing.T) {
	for _, x := range []struct {
		list, offers, first, answer int
		words                       []string
	}{
		{12, 12, 0, 2, []string{"agree"}}, // the server likes 2 best
		{12, 12, 1, 2, []string{"agree"}},
		{12, 12, 0, 1, []string{"agree", "version"}},
		{12, 12, 1, 1, []string{"agree", "version"}},
		{1, 21, 0, 2, []string{"agree", "version"}}, // it does not have 2
		{3, 21, 0, 1, []string{"agree", "version"}}, // it has none of them
	} {
		w := served(x.list)
		do(w, dial, 1, x.offers, x.first)
		do(w, poll)
		do(w, leak, 1, ofSigning)
		c, _ := w.Config(1)
		beServer(w, 1, x.answer, c.Server.Secret, 0)
		if f := guest(w, 1).Talk.Facts(); !f.Done || f.Version != x.answer {
			t.Fatalf("P25.1: %v: %v", x, audit.Lines(w))
		}
		wants(t, w, "he picks", x.words...)
	}
}

// P4: a client that is done has what its server picks, with whatever it begins.
func TestP25_2Version(t *testing.T) {
	for _, x := range []struct{ list, offers, first, version int }{
		{21, 21, 0, 1}, {21, 21, 1, 1}, {12, 21, 0, 2}, {12, 21, 1, 2}, {312, 31, 0, 1}, {132, 31, 1, 3}, {9, 91, 1, 9}, {4321, 987654, 2, 4},
	} {
		for shown := range 2 {
			w := world.New()
			do(w, serve, x.list, shown, 9, 9, 9)
			do(w, dial, 1, x.offers, x.first)
			rounds(w, 12)
			if f := guest(w, 1).Talk.Facts(); !f.Done || f.Version != x.version {
				t.Errorf("P4: %v: %v", x, audit.Lines(w))
			}
			wants(t, w, "versions")
		}
	}
}
