// Package term is layer 2: ideal cryptography's things, each with a number in a table.
package term

import (
	"shibboleth/api"
	"shibboleth/kinds"
)

// anyKind stands where a part may be of each kind.
const anyKind = kinds.None

// Node is a term: its kind, its bytes, its parts.
type Node struct {
	Kind  int
	Text  string
	Parts []api.Term
}

// key is what makes two terms the same one. Behind the parts stand zeros, which are no terms: so they tell how many there are, too.
type key struct {
	kind  int
	text  string
	parts [api.MaxParts]api.Term
}

// Table numbers terms.
type Table struct {
	nodes   []Node           // the term h stands at h-1
	numbers map[key]api.Term // of all but secrets, none of which is looked for
}

// New is an empty table.
func New() *Table {
	return &Table{numbers: map[key]api.Term{}}
}

// Text is the number of the text of b; 0, if it is too long, or there is no room.
func (t *Table) Text(b []byte) api.Term {
	if t == nil || len(b) > api.MaxText {
		return 0
	}
	return t.number(Node{Kind: kinds.Text, Text: string(b)})
}

// Secret is a new secret's number; 0, if there is no room.
func (t *Table) Secret() api.Term {
	if t == nil {
		return 0
	}
	return t.add(Node{Kind: kinds.Secret})
}

// Make is the number of a term of parts; 0, if it has no such form, or there is no room.
// Of a shared one the parts are a secret and a public one.
func (t *Table) Make(kind int, parts []api.Term) api.Term {
	if t == nil || !t.fits(kind, parts) {
		return 0
	}
	own := clone(parts)
	if kind == kinds.Shared {
		own = t.secrets(parts[0], parts[1])
	}
	return t.number(Node{Kind: kind, Parts: own})
}

// Look tells the term of a number; false, if there is none.
func (t *Table) Look(h api.Term) (Node, bool) {
	if !t.has(h) {
		return Node{}, false
	}
	n := t.nodes[h-1]
	n.Parts = clone(n.Parts)
	return n, true
}

// Size tells how many terms there are.
func (t *Table) Size() int {
	if t == nil {
		return 0
	}
	return len(t.nodes)
}

// has: is h a term of the table?
func (t *Table) has(h api.Term) bool {
	return h > 0 && int(h) <= t.Size()
}

// fits: may a term of that kind have those parts?
func (t *Table) fits(kind int, parts []api.Term) bool {
	asked, is := asks(kind, len(parts))
	if !is || len(asked) != len(parts) {
		return false
	}
	for i, h := range parts {
		if !t.has(h) {
			return false
		}
		if asked[i] != anyKind && asked[i] != t.nodes[h-1].Kind {
			return false
		}
	}
	return true
}

// asks tells of which kind each part of a term has to be, where many parts are given; false, if no parts make one.
func asks(kind, many int) ([]int, bool) {
	switch kind {
	case kinds.Row:
		if many > api.MaxParts {
			return nil, false
		}
		return make([]int, many), true // anyKind is 0
	case kinds.Hash:
		return []int{anyKind}, true
	case kinds.Mac:
		return []int{anyKind, anyKind}, true
	case kinds.Derived, kinds.Sealed:
		return []int{anyKind, kinds.Text, anyKind}, true
	case kinds.Public:
		return []int{kinds.Secret}, true
	case kinds.Shared:
		return []int{kinds.Secret, kinds.Public}, true
	case kinds.Signed:
		return []int{kinds.Secret, anyKind}, true
	}
	return nil, false
}

// secrets tells the parts of a shared one. Whoever's public one it is made of, it has to be the same one: so they are in order.
func (t *Table) secrets(secret, public api.Term) []api.Term {
	other := t.nodes[public-1].Parts[0]
	return []api.Term{min(secret, other), max(secret, other)}
}

// number tells the number of a term that may be there already.
func (t *Table) number(n Node) api.Term {
	k := key{kind: n.Kind, text: n.Text}
	copy(k.parts[:], n.Parts)
	if h, is := t.numbers[k]; is {
		return h
	}
	h := t.add(n)
	if h != 0 {
		t.numbers[k] = h
	}
	return h
}

// add gives a term the next number; 0, if there is no room.
func (t *Table) add(n Node) api.Term {
	if len(t.nodes) >= api.MaxTerms {
		return 0
	}
	t.nodes = append(t.nodes, n)
	return api.Term(len(t.nodes))
}

// clone tells the same parts in new memory.
func clone(parts []api.Term) []api.Term {
	own := make([]api.Term, len(parts))
	copy(own, parts)
	return own
}
