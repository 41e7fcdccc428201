package shake_test

import (
	"testing"

	"shibboleth/api"
	"shibboleth/sched"
	"shibboleth/shake"
	"shibboleth/term"
)

// The kinds of terms, by the document's numbers.
const (
	row     = 3
	derived = 6
	public  = 7
	shared  = 8
)

// fault tells the error with which a call panics; OK, if it does not.
func fault(call func()) (e api.Errno) {
	defer func() {
		if x := recover(); x != nil {
			e = x.(api.Errno)
		}
	}()
	call()
	return api.OK
}

func TestMade(t *testing.T) {
	for h, want := range map[api.Term]api.Errno{0: api.ErrFull, 1: api.OK, 1 << 16: api.OK} {
		if e := fault(func() {
			if got := shake.Made(h); got != h {
				t.Errorf("%d: %d", h, got)
			}
		}); e != want {
			t.Errorf("%d: the error %d, not %d", h, e, want)
		}
	}
}

func TestIsPublic(t *testing.T) {
	x := term.New()
	s := x.Secret()
	p := x.Make(public, []api.Term{s})
	for h, want := range map[api.Term]bool{p: true, s: false, x.Text(nil): false, x.Make(row, []api.Term{p}): false, 0: false, -p: false, 1 << 16: false} {
		if got := shake.IsPublic(x, h); got != want {
			t.Errorf("%d: %t", h, got)
		}
	}
	if shake.IsPublic(nil, 1) {
		t.Error("of no table")
	}
}

// Both sides of a talk reckon the same, each with its own secret and the other's share.
func TestBothSidesReckonAlike(t *testing.T) {
	for _, ticket := range []api.Term{0, 1} {
		x := term.New()
		x.Text([]byte("a ticket's secret"))
		a, b := x.Secret(), x.Secret()
		p, q := x.Make(public, []api.Term{a}), x.Make(public, []api.Term{b})
		one, other := shake.Begin(x), shake.Begin(x)
		for _, side := range []*shake.Talk{&one, &other} {
			side.Hear([]byte("hello"))
			side.Resumes(ticket)
		}
		heard := sched.Next(x, sched.Begin(x), []byte("hello"))
		early := sched.Early(x, ticket)
		if one.EarlyTraffic() != sched.EarlyTraffic(x, early, heard) || one.Binder([]byte("short")) != sched.Binder(x, early, sched.Next(x, heard, []byte("short"))) {
			t.Error("early's traffic, or the ticket's mac")
		}
		one.Shake(a, q)
		other.Shake(b, p)
		if one != other || one.Client == 0 || one.Server == one.Client {
			t.Errorf("%v, %v", one, other)
		}
		shaken := sched.Shaken(x, early, x.Make(shared, []api.Term{a, q}))
		client, server := sched.MainTraffic(x, sched.Main(x, shaken), heard)
		if c, s := one.MainTraffic(); c != client || s != server {
			t.Errorf("main's traffic: %d, %d, not %d, %d", c, s, client, server)
		}
		if h := one.Resume(); h != sched.Resume(x, sched.Main(x, shaken), heard) {
			t.Errorf("the resumption secret: %d", h)
		}
		if h := one.Finished(one.Server); h != sched.Finished(x, one.Server, heard) {
			t.Errorf("a mac: %d", h)
		}
	}
}

// In a table without room all that is not there yet is a panic.
func TestNoRoom(t *testing.T) {
	x := term.New()
	s := x.Secret()
	p := x.Make(public, []api.Term{s})
	talk := shake.Begin(x)
	talk.Resumes(0)
	fill(x)
	for what, call := range map[string]func(){
		"Begin":        func() { shake.Begin(filled()) },
		"Hear":         func() { talk.Hear([]byte("more")) },
		"Resumes":      func() { talk.Resumes(s) },
		"EarlyTraffic": func() { talk.EarlyTraffic() },
		"Binder":       func() { talk.Binder([]byte("short")) },
		"Shake":        func() { talk.Shake(s, p) },
		"Finished":     func() { talk.Finished(s) },
		"MainTraffic":  func() { talk.MainTraffic() },
		"Resume":       func() { talk.Resume() },
	} {
		if e := fault(call); e != api.ErrFull {
			t.Errorf("%s: %d", what, e)
		}
	}
}

// Each term counts: where there is no room for just one of them, the others do not help.
func TestNoRoomForOne(t *testing.T) {
	labels := []string{"client hs", "server hs", "main", "client app", "server app"}
	for missing := range len(labels) + 1 {
		x := term.New()
		s := x.Secret()
		p := x.Make(public, []api.Term{s})
		talk := shake.Begin(x)
		talk.Resumes(0)
		shaken := sched.Shaken(x, sched.Early(x, 0), x.Make(shared, []api.Term{s, p}))
		// All that will be asked for is made by hand ahead, but for one.
		for i, label := range labels {
			of := shaken
			if i > 2 && missing == 2 {
				break // these are of main
			}
			if i > 2 {
				of = sched.Main(x, shaken)
			}
			if said := x.Text([]byte(label)); i != missing {
				x.Make(derived, []api.Term{of, said, talk.Transcript})
			}
		}
		fill(x)
		want := [...]api.Errno{api.OK, api.OK}
		if missing < 3 {
			want[0] = api.ErrFull
		} else if missing < len(labels) {
			want[1] = api.ErrFull
		}
		if e := fault(func() { talk.Shake(s, p) }); e != want[0] {
			t.Errorf("without %d: Shake: %d, not %d", missing, e, want[0])
		}
		if e := fault(func() { talk.MainTraffic() }); want[0] == api.OK && e != want[1] {
			t.Errorf("without %d: MainTraffic: %d, not %d", missing, e, want[1])
		}
	}
}

// fill puts secrets into a table until it has no room.
func fill(x *term.Table) {
	for x.Size() < 1<<16 {
		x.Secret()
	}
}

// filled is a table of secrets alone.
func filled() *term.Table {
	x := term.New()
	fill(x)
	return x
}
