package sched_test

import (
	"testing"

	"shibboleth/api"
	"shibboleth/sched"
	"shibboleth/term"
)

// macs are what asks for a mac, and what it is to be found as.
var macs = []struct {
	name, label string
	make        func(x *term.Table, secret, transcript api.Term) api.Term
	is          func(x *term.Table, secret, transcript, mac api.Term) bool
}{
	{"Finishes", "finished", sched.Finished, sched.Finishes},
	{"Binds", "binder", sched.Binder, sched.Binds},
}

func TestP15_1RightMacs(t *testing.T) {
	for _, m := range macs {
		x := term.New()
		own := each(x)
		for _, secret := range own {
			for _, transcript := range own {
				h := m.make(x, secret, transcript)
				size := x.Size()
				if !m.is(x, secret, transcript, h) || x.Size() != size {
					t.Errorf("P15.1: %s(%d, %d, %d) is false, with %d more terms", m.name, secret, transcript, h, x.Size()-size)
				}
			}
		}
	}
}

// Of all numbers of a small table just that of the right mac is one, and asking makes nothing.
func TestP15_1AllNumbersAsMacs(t *testing.T) {
	for _, m := range macs {
		x := term.New()
		a, b := x.Secret(), x.Secret()
		empty := sched.Begin(x)
		one := sched.Next(x, empty, []byte("one"))
		type asked struct{ secret, transcript api.Term }
		right := map[asked]api.Term{}
		for _, k := range []asked{{a, empty}, {a, one}, {b, one}, {a, b}, {one, a}} {
			right[k] = m.make(x, k.secret, k.transcript)
		}
		for _, other := range macs {
			other.make(x, b, empty)
		}
		right[asked{b, empty}] = m.make(x, b, empty)
		// A mac of a mac, and with a mac as its secret.
		right[asked{right[asked{a, one}], one}] = m.make(x, right[asked{a, one}], one)
		right[asked{a, right[asked{a, one}]}] = m.make(x, a, right[asked{a, one}])
		size := x.Size()
		all := strange(size)
		for h := range api.Term(size + 3) {
			all = append(all, h)
		}
		for _, secret := range all {
			for _, transcript := range all {
				for _, h := range all {
					want := h != 0 && right[asked{secret, transcript}] == h
					if m.is(x, secret, transcript, h) != want {
						t.Errorf("P15.1: %s(%d, %d, %d) is %t", m.name, secret, transcript, h, !want)
					}
				}
			}
		}
		if x.Size() != size {
			t.Errorf("P15.1: %s makes %d terms", m.name, x.Size()-size)
		}
	}
}

// What differs from the right mac in one place is none.
func TestP15_1NearlyRightMacs(t *testing.T) {
	for i, m := range macs {
		x := term.New()
		a, b := x.Secret(), x.Secret()
		empty := x.Text(nil)
		label := x.Text([]byte(m.label))
		tr := sched.Next(x, empty, []byte("hello"))
		key := derive(x, a, m.label, empty)
		right := x.Make(mac, list(key, tr))
		for name, h := range map[string]api.Term{
			"another secret's":           x.Make(mac, list(derive(x, b, m.label, empty), tr)),
			"another transcript's":       x.Make(mac, list(key, empty)),
			"the other call's":           macs[1-i].make(x, a, tr),
			"with a label that is cut":   x.Make(mac, list(derive(x, a, m.label[1:], empty), tr)),
			"with a longer label":        x.Make(mac, list(derive(x, a, m.label+" ", empty), tr)),
			"without a label":            x.Make(mac, list(derive(x, a, "", empty), tr)),
			"with a context":             x.Make(mac, list(derive(x, a, m.label, tr), tr)),
			"with a context of a byte":   x.Make(mac, list(derive(x, a, m.label, x.Text([]byte{0})), tr)),
			"with a context of no parts": x.Make(mac, list(derive(x, a, m.label, x.Make(row, nil)), tr)),
			"by the secret itself":       x.Make(mac, list(a, tr)),
			"by a row":                   x.Make(mac, list(x.Make(row, list(a, label, empty)), tr)),
			"by a sealed one":            x.Make(mac, list(x.Make(sealed, list(a, label, empty)), tr)),
			"by the label":               x.Make(mac, list(label, tr)),
			"the other way round":        x.Make(mac, list(tr, key)),
			"of the hash":                x.Make(mac, list(key, x.Make(hash, list(tr)))),
			"a row":                      x.Make(row, list(key, tr)),
			"a longer row":               x.Make(row, list(key, tr, tr)),
			"a hash":                     x.Make(hash, list(key)),
			"a signed one":               x.Make(signed, list(a, tr)),
			"the key":                    key,
			"the transcript":             tr,
			"the label":                  label,
			"a text":                     empty,
		} {
			if h == 0 || h == right {
				t.Fatalf("%s is %d", name, h)
			}
			if m.is(x, a, tr, h) {
				t.Errorf("P15.1: %s: one that is %s", m.name, name)
			}
		}
		if !m.is(x, a, tr, right) {
			t.Errorf("P15.1: %s: the right one is none", m.name)
		}
		// Where the transcript is a text, sealed and derived ones have a key and it in the same places.
		for _, kind := range []int{sealed, derived} {
			if m.is(x, a, label, x.Make(kind, list(key, label, label))) {
				t.Errorf("P15.1: %s: one of the kind %d", m.name, kind)
			}
		}
	}
}

// A number that no term has yet is none; when the mac is made, and has this number, it is one.
func TestP15_1MacsThatAreNotMadeYet(t *testing.T) {
	for _, m := range macs {
		x := term.New()
		a := x.Secret()
		tr := sched.Next(x, sched.Begin(x), []byte("hello"))
		derive(x, a, m.label, sched.Begin(x)) // the key: the mac is the next one
		size := x.Size()
		for h := range api.Term(size + 10) {
			if m.is(x, a, tr, h) || x.Size() != size {
				t.Errorf("P15.1: %s: %d, that is not made, with %d more terms", m.name, h, x.Size()-size)
			}
		}
		if h := m.make(x, a, tr); h != api.Term(size+1) || !m.is(x, a, tr, h) {
			t.Errorf("P15.1: %s: %d, that is made", m.name, h)
		}
	}
}

func TestP15_1MacsOfNoTerms(t *testing.T) {
	for _, m := range macs {
		x := term.New()
		a := x.Secret()
		tr := sched.Begin(x)
		h := m.make(x, a, tr)
		for _, none := range strange(x.Size()) {
			if m.is(x, none, tr, h) || m.is(x, a, none, h) || m.is(x, a, tr, none) || m.is(x, none, none, none) || m.is(x, none, tr, 0) || m.is(x, a, none, 0) {
				t.Errorf("P15.1: %s with %d", m.name, none)
			}
		}
	}
}

func TestP15_1MacsInAFullTable(t *testing.T) {
	for _, m := range macs {
		x := nearlyFull(10)
		h := m.make(x, 1, 2)
		fill(x, 0)
		if !m.is(x, 1, 2, h) || m.is(x, 3, 2, h) || m.is(x, 1, 1, h) || m.make(x, 1, 2) != h {
			t.Errorf("P15.1: %s of %d in a full table", m.name, h)
		}
		y := nearlyFull(0)
		for _, h := range []api.Term{0, 1, 2, 3, 1 << 16, 1<<16 + 1} {
			if m.is(y, 1, 2, h) {
				t.Errorf("P15.1: %s of %d in a full table that has no macs", m.name, h)
			}
		}
	}
}
