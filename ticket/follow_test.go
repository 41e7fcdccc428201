package ticket_test

import (
	"slices"
	"testing"

	"shibboleth/api"
	"shibboleth/know"
	"shibboleth/term"
	"shibboleth/ticket"
)

func TestP17_2WhatIsIssuedIsRedeemed(t *testing.T) {
	numbers := []int{0, 1, 5, 63, 64, 1<<14 - 1, 1 << 14, 1<<30 - 1, 1 << 30, 1 << 40, greatest}
	x := term.New()
	key, one, other := x.Secret(), x.Secret(), x.Secret()
	seen := map[api.Term]bool{}
	for _, version := range numbers {
		for _, time := range numbers {
			for _, life := range numbers {
				for _, secret := range list(one, other) {
					own := ticket.Ticket{Version: version, Time: time, Life: life, Secret: secret}
					h := ticket.Issue(x, key, own)
					if h == 0 || seen[h] {
						t.Fatalf("P17.2: %+v: %d", own, h)
					}
					seen[h] = true
					redeems(t, x, key, h, time, "what was issued", own, api.OK)
					redeems(t, x, key, h, time+life, "what was issued", own, api.OK)
					redeems(t, x, key, h, time-1, "what was issued", ticket.Ticket{}, api.ErrOld)
				}
			}
		}
	}
}

// Each key redeems its own tickets alone, and each ticket has one key.
func TestP17_2ByItsKeyAlone(t *testing.T) {
	x := term.New()
	s := x.Secret()
	own := ticket.Ticket{Version: 2, Time: 10, Life: 5, Secret: s}
	keys := list(x.Secret(), x.Secret(), s, x.Text([]byte("key")))
	var all []api.Term
	for _, key := range keys {
		all = append(all, ticket.Issue(x, key, own))
	}
	for i, h := range all {
		for key := api.Term(1); key <= api.Term(x.Size()); key++ {
			if key == keys[i] {
				redeems(t, x, key, h, 12, "one with its key", own, api.OK)
			} else {
				none(t, x, key, h, "one with another key")
			}
		}
	}
}

func TestP17_2ItsSecretStaysSecret(t *testing.T) {
	x := term.New()
	key, other, s, mine := x.Secret(), x.Secret(), x.Secret(), x.Secret()
	resumption := x.Make(derived, list(s, x.Text([]byte("resumption")), x.Text(nil)))
	for _, secret := range list(s, resumption) {
		own := ticket.Ticket{Version: 2, Time: 10, Life: 5, Secret: secret}
		h := ticket.Issue(x, key, own)
		hears := list(h, other, mine, x.Make(public, list(key)), x.Make(hash, list(secret)),
			ticket.Issue(x, key, ticket.Ticket{Version: 2, Time: 11, Life: 5, Secret: secret}),
			ticket.Issue(x, other, ticket.Ticket{Version: 2, Time: 10, Life: 5, Secret: mine}))
		if know.Can(x, list(h), secret) || know.Can(x, hears, secret) || know.Can(x, hears, key) {
			t.Errorf("P17.2: the secret %d can be made without the key", secret)
		}
		if !know.Can(x, list(h, key), secret) || !slices.Contains(know.Closed(x, list(h, key)), secret) {
			t.Errorf("P17.2: the secret %d does not follow with the key", secret)
		}
	}
}

func TestP17_2NobodyCanMakeOneWithoutBoth(t *testing.T) {
	x := term.New()
	key, s := x.Secret(), x.Secret()
	h := ticket.Issue(x, key, ticket.Ticket{Version: 2, Time: 10, Life: 5, Secret: s})
	later := ticket.Issue(x, key, ticket.Ticket{Version: 2, Time: 10, Life: 6, Secret: s})
	for _, base := range [][]api.Term{nil, list(s), list(later), list(later, s)} {
		if know.Can(x, base, h) {
			t.Errorf("P17.2: a ticket can be made of %v", base)
		}
	}
	// The secret itself may be another's gift: who has a ticket and its key has it, and so can make the other one.
	for _, base := range [][]api.Term{list(h), list(key, s), list(later, key)} {
		if !know.Can(x, base, h) {
			t.Errorf("P17.2: a ticket can't be made of %v", base)
		}
	}
	if know.Can(x, list(key), h) {
		t.Error("P17.2: a ticket can be made by its key alone, without its secret")
	}
}
