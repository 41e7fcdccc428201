package sched

import (
	"shibboleth/api"
	"shibboleth/ideal"
	"shibboleth/kinds"
	"shibboleth/term"
)

// label tells apart what is derived of one secret.
type label string

const (
	byClientIn    label = "client in"
	byServerIn    label = "server in"
	byEarly       label = "early"
	byClientEarly label = "client early"
	byHandshake   label = "handshake"
	byClientHs    label = "client hs"
	byServerHs    label = "server hs"
	byMain        label = "main"
	byClientApp   label = "client app"
	byServerApp   label = "server app"
	byResume      label = "resume"
	byFinished    label = "finished"
	byBinder      label = "binder"
)

// of is what is derived of a secret by it, without a context.
func (l label) of(t *term.Table, secret api.Term) api.Term {
	return ideal.Derive(t, secret, string(l), 0)
}

// at is what is derived of a secret by it, with a transcript as its context.
func (l label) at(t *term.Table, secret, transcript api.Term) api.Term {
	if transcript == 0 { // layer 4 would take it for the empty text, which is the transcript behind no message
		return 0
	}
	return ideal.Derive(t, secret, string(l), transcript)
}

// is: is h what of tells of a secret?
func (l label) is(t *term.Table, h, secret api.Term) bool {
	n, _ := t.Look(h)
	return n.Kind == kinds.Derived && n.Parts[0] == secret && isText(t, n.Parts[1], string(l)) && isText(t, n.Parts[2], "")
}

// isText: is h the text of s?
func isText(t *term.Table, h api.Term, s string) bool {
	n, _ := t.Look(h)
	return n.Kind == kinds.Text && n.Text == s
}
