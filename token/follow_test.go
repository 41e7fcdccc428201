package token_test

import (
	"testing"

	"shibboleth/api"
	"shibboleth/know"
	"shibboleth/term"
	"shibboleth/token"
)

func TestP16_2WhatIsMintedIsLookedAt(t *testing.T) {
	numbers := []int{0, 1, 5, 63, 64, 1<<14 - 1, 1 << 14, 1<<30 - 1, 1 << 30, 1 << 40, greatest}
	x := term.New()
	key := x.Secret()
	seen := map[api.Term]bool{}
	for _, later := range []bool{false, true} {
		for _, address := range numbers {
			for _, time := range numbers {
				for size := range 21 {
					own := token.Token{Later: later, Address: address, Time: time, Name: name(size)}
					h := token.Mint(x, key, own)
					if h == 0 || seen[h] {
						t.Fatalf("P16.2: %+v: %d", own, h)
					}
					seen[h] = true
					looks(t, x, key, h, "what was minted", own, api.OK)
					if got, e := token.Check(x, key, h, address, time, 0); e != api.OK || !same(got, own) {
						t.Errorf("P16.2: %+v: %+v, %d", own, got, e)
					}
				}
			}
		}
	}
}

// Each key looks at its own tokens alone, and each token has one key.
func TestP16_2ByItsKeyAlone(t *testing.T) {
	x := term.New()
	own := token.Token{Address: 5, Time: 10, Name: []byte("goal")}
	keys := list(x.Secret(), x.Secret(), x.Secret(), x.Text([]byte("key")))
	var all []api.Term
	for _, key := range keys {
		all = append(all, token.Mint(x, key, own))
	}
	for i, h := range all {
		for key := api.Term(1); key <= api.Term(x.Size()); key++ {
			if key == keys[i] {
				looks(t, x, key, h, "one with its key", own, api.OK)
			} else {
				none(t, x, key, h, "one with another key")
			}
		}
	}
}

func TestP16_2NobodyCanMakeOneWithoutTheKey(t *testing.T) {
	x := term.New()
	key, other, mine := x.Secret(), x.Secret(), x.Secret()
	own := token.Token{Address: 5, Time: 10, Name: []byte("goal")}
	later := token.Token{Later: true, Address: 5, Time: 10, Name: []byte("goal")}
	heard, h, next := token.Mint(x, key, token.Token{Address: 6, Time: 10}), token.Mint(x, key, own), token.Mint(x, key, later)
	pub := x.Make(public, list(key))
	said := x.Make(hash, list(h))
	hears := list(other, mine, pub, heard, said, token.Mint(x, other, own), token.Mint(x, mine, own))
	for _, minted := range list(h, next) {
		if know.Can(x, nil, minted) || know.Can(x, hears, minted) {
			t.Errorf("P16.2: %d can be made without the key", minted)
		}
		if !know.Can(x, list(key), minted) {
			t.Errorf("P16.2: %d can't be made with the key", minted)
		}
		// Who has heard it can send it again; its key is not his by that, and no other one either.
		if !know.Can(x, list(minted), minted) || know.Can(x, append(hears, minted), key) {
			t.Errorf("P16.2: of %d the key follows", minted)
		}
	}
	if know.Can(x, append(hears, h), next) || know.Can(x, append(hears, next), h) {
		t.Error("P16.2: of one token another one can be made")
	}
	// With a key that everybody can make, everybody can make a token.
	open := token.Mint(x, x.Text([]byte("key")), own)
	if !know.Can(x, nil, open) {
		t.Error("P16.2: a token whose key is a text")
	}
}
