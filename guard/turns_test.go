package guard_test

import (
	"bytes"
	"maps"
	"math/rand/v2"
	"slices"
	"testing"

	"shibboleth/api"
	"shibboleth/guard"
	"shibboleth/header"
	"shibboleth/ideal"
	"shibboleth/pnum"
	"shibboleth/term"
)

func TestP12_3UpdateWithoutBothSecrets(t *testing.T) {
	x := term.New()
	r, w := x.Secret(), x.Secret()
	g := guard.New(x)
	updates(t, g, api.ErrState)
	for _, level := range []int{api.Initial, api.Early, api.Handshake} {
		installs(t, g, level, r, w, api.OK)
		updates(t, g, api.ErrState)
	}
	installs(t, g, api.App, r, 0, api.OK)
	updates(t, g, api.ErrState)
	installs(t, g, api.App, 0, w, api.OK)
	updates(t, g, api.OK)

	g = guard.New(x)
	installs(t, g, api.App, 0, w, api.OK)
	updates(t, g, api.ErrState)
	installs(t, g, api.App, r, 0, api.OK)
	updates(t, g, api.OK)
	drops(t, g, api.App, api.OK)
	updates(t, g, api.ErrState)

	g = guard.New(x)
	installs(t, g, api.App, r, w, api.OK)
	drops(t, g, api.App, api.OK)
	updates(t, g, api.ErrState)
}

func TestP12_3UpdateOnceUntilTheOtherFollows(t *testing.T) {
	x, a, b := pair(t)
	for generation := range 5 {
		phases(t, a, generation, generation)
		updates(t, a, api.OK)
		updates(t, a, api.ErrState)
		updates(t, a, api.ErrState)
		// The other one follows by reading; the one who began, by reading what it writes then.
		opens(t, x, b, sealed(t, x, a, api.App, generation), generation)
		phases(t, b, generation+1, generation+1)
		updates(t, a, api.ErrState)
		opens(t, x, a, sealed(t, x, b, api.App, generation), generation)
		phases(t, a, generation+1, generation+1)
	}
}

func TestP12_3BothUpdateAtOnce(t *testing.T) {
	x, a, b := pair(t)
	oldA, oldB := sealed(t, x, a, api.App, 1), sealed(t, x, b, api.App, 1)
	updates(t, a, api.OK)
	updates(t, b, api.OK)
	newA, newB := sealed(t, x, a, api.App, 2), sealed(t, x, b, api.App, 2)
	opens(t, x, b, newA, 2)
	// Who writes ahead already stays where it writes.
	phases(t, b, 1, 1)
	opens(t, x, b, oldA, 1)
	opens(t, x, a, oldB, 1)
	phases(t, a, 0, 1)
	opens(t, x, a, newB, 2)
	phases(t, a, 1, 1)
	updates(t, a, api.OK)
	updates(t, b, api.OK)
	opens(t, x, b, sealed(t, x, a, api.App, 3), 3)
	opens(t, x, a, sealed(t, x, b, api.App, 3), 3)
	phases(t, a, 2, 2)
	phases(t, b, 2, 2)
}

func TestP12_2SealsByTheWritingGeneration(t *testing.T) {
	x, g, r := reader(t)
	w := x.Secret()
	installs(t, g, api.App, 0, w, api.OK)
	for generation := range 6 {
		h := head(api.App, 2)
		h.Phase = generation % 2
		want := by(x, secretOf(x, w, generation), h, 70+generation, w, 9)
		if b, e := g.Seal(head(api.App, 2), 70+generation, w, 9); !bytes.Equal(b, want) || e != api.OK {
			t.Errorf("P12.2: generation %d: %x, %d, not %x", generation, b, e, want)
		}
		// Each second time it begins itself, else it follows.
		if generation%2 == 0 {
			updates(t, g, api.OK)
		}
		opens(t, x, g, forged(t, x, r, generation+1, generation), generation)
		phases(t, g, generation+1, generation+1)
	}
}

func TestP12_2OtherLevelsDoNotChange(t *testing.T) {
	x, a, b := pair(t)
	before := map[int][]byte{}
	for _, level := range levels[:3] {
		before[level], _ = a.Seal(head(level, 2), 4, 1, 4)
	}
	updates(t, a, api.OK)
	opens(t, x, b, sealed(t, x, a, api.App, 0), 0)
	for _, level := range levels[:3] {
		if again, e := a.Seal(head(level, 2), 4, 1, 4); !bytes.Equal(again, before[level]) || e != api.OK {
			t.Errorf("P12.2: level %d: %x, %d, not %x", level, again, e, before[level])
		}
		opens(t, x, b, sealed(t, x, a, level, 5), 5)
		opens(t, x, a, sealed(t, x, b, level, 5), 5)
	}
	phases(t, b, 1, 1)
}

func TestP12_2AheadOfTheChange(t *testing.T) {
	x, g, s := reader(t)
	opens(t, x, g, forged(t, x, s, 0, 5), 5)
	opens(t, x, g, forged(t, x, s, 1, 10), 10)
	phases(t, g, 1, 1)
	// What was sealed ahead of the change opens, as long as its number is below the first one's.
	opens(t, x, g, forged(t, x, s, 0, 6), 6)
	opens(t, x, g, forged(t, x, s, 0, 9), 9)
	shuts(t, g, forged(t, x, s, 0, 5), api.ErrTwice)
	shuts(t, g, forged(t, x, s, 0, 10), api.ErrTwice)
	shuts(t, g, forged(t, x, s, 0, 11), api.ErrSeal)
	phases(t, g, 1, 1)
	// A number below it lets nothing change.
	shuts(t, g, forged(t, x, s, 2, 8), api.ErrSeal)
	phases(t, g, 1, 1)
	// The first one is that which came first, not that of the least number.
	opens(t, x, g, forged(t, x, s, 1, 7), 7)
	opens(t, x, g, forged(t, x, s, 0, 8), 8)
	opens(t, x, g, forged(t, x, s, 1, 12), 12)
	shuts(t, g, forged(t, x, s, 0, 11), api.ErrSeal)
	opens(t, x, g, forged(t, x, s, 2, 11), 11)
	phases(t, g, 2, 2)
	// From now on it is this one.
	opens(t, x, g, forged(t, x, s, 1, 4), 4)
	shuts(t, g, forged(t, x, s, 1, 13), api.ErrSeal)
	opens(t, x, g, forged(t, x, s, 3, 13), 13)
	phases(t, g, 3, 3)
}

func TestP12_2TwoGenerationsBack(t *testing.T) {
	x, g, s := reader(t)
	for generation := range 6 {
		opens(t, x, g, forged(t, x, s, generation, 10*generation+10), 10*generation+10)
		phases(t, g, generation, generation)
		for back := range generation + 1 {
			full := 10*generation + 1 + back
			p := forged(t, x, s, generation-back, full)
			if back < 2 {
				opens(t, x, g, p, full)
			} else {
				shuts(t, g, p, api.ErrSeal)
			}
		}
		phases(t, g, generation, generation)
	}
}

func TestP12_2TwoGenerationsOn(t *testing.T) {
	x, g, s := reader(t)
	for _, generation := range []int{2, 3, 4, 5} {
		shuts(t, g, forged(t, x, s, generation, 20+generation), api.ErrSeal)
	}
	phases(t, g, 0, 0)
	opens(t, x, g, forged(t, x, s, 1, 30), 30)
	for _, generation := range []int{3, 4, 5} {
		shuts(t, g, forged(t, x, s, generation, 40+generation), api.ErrSeal)
	}
	phases(t, g, 1, 1)
	opens(t, x, g, forged(t, x, s, 2, 50), 50)
	phases(t, g, 2, 2)
}

func TestP12_2PhaseTellsTheSecret(t *testing.T) {
	x, g, s := reader(t)
	// Sealed by a generation's secret, with the phase of the one next to it.
	wrong := func(generation, full int) header.Packet {
		h := head(api.App, 2)
		h.Phase = 1 - generation%2
		return packetOf(t, by(x, secretOf(x, s, generation), h, full, contentOf(x, full), 4))
	}
	shuts(t, g, wrong(0, 5), api.ErrSeal)
	shuts(t, g, wrong(1, 6), api.ErrSeal)
	phases(t, g, 0, 0)
	opens(t, x, g, forged(t, x, s, 1, 7), 7)
	for full := 3; full <= 9; full++ {
		if full != 7 {
			for generation := range 3 {
				shuts(t, g, wrong(generation, full), api.ErrSeal)
			}
		}
	}
	phases(t, g, 1, 1)
}

func TestP12_2WhatDoesNotOpenChangesNothing(t *testing.T) {
	x, a, b := pair(t)
	other := x.Secret()
	for full := range 5 {
		shuts(t, b, forged(t, x, other, 1, full), api.ErrSeal)
	}
	phases(t, b, 0, 0)
	updates(t, a, api.OK)
	p := sealed(t, x, a, api.App, 0)
	opens(t, x, b, p, 0)
	shuts(t, b, p, api.ErrTwice)
	for full := 1; full < 5; full++ {
		shuts(t, b, forged(t, x, other, 2, full), api.ErrSeal)
	}
	phases(t, b, 1, 1)
}

func TestP12_2SecretIsOfTheGenerationThatStands(t *testing.T) {
	x, g, s := reader(t)
	opens(t, x, g, forged(t, x, s, 1, 3), 3)
	opens(t, x, g, forged(t, x, s, 2, 4), 4)
	opens(t, x, g, forged(t, x, s, 3, 5), 5)
	phases(t, g, 3, 3)
	has(t, g, api.App, true, false)
	refuses(t, g, head(api.App, 2), 0, s, 4, api.ErrKey)
	w := x.Secret()
	installs(t, g, api.App, 0, w, api.OK)
	phases(t, g, 3, 3)
	for generation := 3; generation < 5; generation++ {
		h := head(api.App, 2)
		h.Phase = generation % 2
		want := by(x, secretOf(x, w, generation-3), h, 8, s, 4)
		if b, e := g.Seal(head(api.App, 2), 8, s, 4); !bytes.Equal(b, want) || e != api.OK {
			t.Errorf("P12.2: generation %d: %x, %d, not %x", generation, b, e, want)
		}
		updates(t, g, []api.Errno{api.ErrState, api.OK}[generation%2])
	}
}

func TestP12_3ChangesInAFullTable(t *testing.T) {
	x, a, b := pair(t)
	first := sealed(t, x, a, api.App, 0)
	filled(x, 0)
	updates(t, a, api.OK)
	has(t, a, api.App, true, true)
	for range 2 {
		refuses(t, a, head(api.App, 2), 1, 1, 4, api.ErrFull)
		// What was sealed in the generation ahead is there, but it is not that generation's any more.
		refuses(t, a, head(api.App, 2), 0, contentOf(x, 0), 4, api.ErrFull)
	}
	updates(t, a, api.ErrState)
	opens(t, x, b, first, 0)
	// With the phase of the next generation there is nothing to open it with.
	first.Header.Phase = 1
	first.Header.Number = 1
	shuts(t, b, first, api.ErrSeal)
	phases(t, b, 0, 0)
}

func TestP12_3FollowingInAFullTable(t *testing.T) {
	x, g, r := reader(t)
	w := x.Secret()
	installs(t, g, api.App, 0, w, api.OK)
	var l []header.Packet
	for generation := 1; generation < 4; generation++ {
		l = append(l, forged(t, x, r, generation, generation))
	}
	filled(x, 0)
	for i, p := range l {
		opens(t, x, g, p, i+1)
		phases(t, g, i+1, i+1)
		has(t, g, api.App, true, true)
		refuses(t, g, head(api.App, 2), 1, 1, 4, api.ErrFull)
	}
	updates(t, g, api.OK)
	phases(t, g, 3, 4)
}

// The secret to write with is that of its generation, however many were not asked for.
func TestP12_3GenerationsWithoutPackets(t *testing.T) {
	x, g, r := reader(t)
	w := x.Secret()
	installs(t, g, api.App, 0, w, api.OK)
	for generation := 1; generation < 8; generation++ {
		opens(t, x, g, forged(t, x, r, generation, generation), generation)
	}
	updates(t, g, api.OK)
	want := by(x, secretOf(x, w, 8), head(api.App, 2), 1, w, 4)
	if b, e := g.Seal(head(api.App, 2), 1, w, 4); !bytes.Equal(b, want) || e != api.OK {
		t.Errorf("P12.3: %x, %d, not %x", b, e, want)
	}
}

// model is a guard by the words: each generation's secret is derived anew of the first one, and numbers are kept one by one.
type model struct {
	x        *term.Table
	r, w     [4]api.Term
	gone     [4]bool
	came     [4]map[int]struct{}
	greatest [4]int
	// The level 3's generations, and of which one the secret was when it was put.
	reading, writing, began, first int
}

// modelOf is a model without keys.
func modelOf(x *term.Table) *model {
	m := &model{x: x}
	for level := range 4 {
		m.came[level], m.greatest[level] = map[int]struct{}{}, -1
	}
	return m
}

// install tells what Install tells of levels and terms that there are, or 0.
func (m *model) install(level int, r, w api.Term) api.Errno {
	if m.gone[level] || r != 0 && m.r[level] != 0 || w != 0 && m.w[level] != 0 {
		return api.ErrState
	}
	m.r[level] = max(m.r[level], r)
	m.w[level] = max(m.w[level], w)
	if level == 3 && w != 0 {
		m.began = m.writing
	}
	return api.OK
}

// drop tells what Drop tells of a level that there is.
func (m *model) drop(level int) api.Errno {
	if m.gone[level] {
		return api.ErrState
	}
	m.gone[level], m.r[level], m.w[level] = true, 0, 0
	return api.OK
}

// update tells what Update tells.
func (m *model) update() api.Errno {
	if m.r[3] == 0 || m.w[3] == 0 || m.writing > m.reading {
		return api.ErrState
	}
	m.writing++
	return api.OK
}

// seal tells what Seal tells of right arguments.
func (m *model) seal(level, width, full, n int) ([]byte, api.Errno) {
	secret, h := m.w[level], head(level, width)
	if secret == 0 {
		return nil, api.ErrKey
	}
	if level == 3 {
		secret, h.Phase = secretOf(m.x, secret, m.writing-m.began), m.writing%2
	}
	return by(m.x, secret, h, full, contentOf(m.x, full), n), api.OK
}

// generation tells which generation's secret a packet of the level 3 is opened with.
func (m *model) generation(phase, full int) int {
	switch {
	case phase == m.reading%2:
		return m.reading
	case m.reading > 0 && full < m.first:
		return m.reading - 1
	}
	return m.reading + 1
}

// open tells what Open tells of a packet whose body has form, and whose content is that of its number.
func (m *model) open(p header.Packet) (guard.Opened, api.Errno) {
	level := p.Header.Kind
	secret := m.r[level]
	if secret == 0 {
		return guard.Opened{}, api.ErrKey
	}
	full := pnum.Full(m.greatest[level], p.Header.Number, p.Header.Width)
	if _, is := m.came[level][full]; is || full <= m.greatest[level]-64 {
		return guard.Opened{}, api.ErrTwice
	}
	generation := 0
	if level == 3 {
		generation = m.generation(p.Header.Phase, full)
		secret = secretOf(m.x, secret, generation)
	}
	_, n, _ := ideal.Unwrap(p.Body)
	if want := by(m.x, secret, p.Header, full, contentOf(m.x, full), n); !bytes.Equal(want, slices.Concat(p.Head, p.Body)) {
		return guard.Opened{}, api.ErrSeal
	}
	m.came[level][full], m.greatest[level] = struct{}{}, max(m.greatest[level], full)
	if level == 3 && generation > m.reading {
		m.reading, m.first, m.writing = generation, full, max(m.writing, generation)
	}
	return guard.Opened{Level: level, Number: full, Content: contentOf(m.x, full), Size: n}, api.OK
}

// run plays two guards that may do anything, and somebody who has their secrets, beside their models.
type run struct {
	t       *testing.T
	chance  *rand.Rand
	x       *term.Table
	guards  [2]*guard.Guard
	models  [2]*model
	secrets [4][2]api.Term
	packets []header.Packet
	errors  map[api.Errno]int
	turned  int // the greatest generation
}

// step does one thing to one of the two.
func (r *run) step(near int) {
	who := r.chance.IntN(2)
	g, m := r.guards[who], r.models[who]
	level := [8]int{0, 1, 2, 3, 3, 3, 3, 3}[r.chance.IntN(8)]
	switch r.chance.IntN(24) {
	case 0:
		pick := [3]api.Term{0, r.secrets[level][who], r.secrets[level][who]}[r.chance.IntN(3)]
		other := [3]api.Term{0, r.secrets[level][1-who], r.secrets[level][1-who]}[r.chance.IntN(3)]
		r.alike("Install", g.Install(level, pick, other), m.install(level, pick, other))
	case 1:
		if r.chance.IntN(40) == 0 {
			r.alike("Drop", g.Drop(level), m.drop(level))
		}
	case 2:
		r.alike("Update", g.Update(), m.update())
	case 3, 4, 5, 6, 7, 8, 9:
		r.seal(g, m, level, near+r.chance.IntN(90)-45)
	case 10, 11:
		r.forge(who, m, max(0, near+r.chance.IntN(90)-45))
	default:
		r.open(g, m)
	}
	for level := range 4 {
		if read, write := g.Has(level); read != (m.r[level] != 0) || write != (m.w[level] != 0) {
			r.t.Fatalf("P12.1: Has(%d): %t, %t", level, read, write)
		}
	}
	if read, write := g.Phases(); read != m.reading || write != m.writing {
		r.t.Fatalf("P12.3: Phases: %d, %d, not %d, %d", read, write, m.reading, m.writing)
	}
	r.turned = max(r.turned, m.reading)
}

// alike holds that a guard and its model tell the same.
func (r *run) alike(what string, got, want api.Errno) {
	if r.errors[got]++; got != want {
		r.t.Fatalf("P12: %s: %d, not %d", what, got, want)
	}
}

// seal lets a guard seal a packet, if the number is one.
func (r *run) seal(g *guard.Guard, m *model, level, full int) {
	width, n := 1+r.chance.IntN(2), r.chance.IntN(20)
	if full < 0 {
		return
	}
	b, e := g.Seal(head(level, width), full, contentOf(r.x, full), n)
	want, wantE := m.seal(level, width, full, n)
	r.alike("Seal", e, wantE)
	if !bytes.Equal(b, want) {
		r.t.Fatalf("P12.2: Seal: %x, not %x", b, want)
	}
	if e == api.OK {
		r.packets = append(r.packets, packetOf(r.t, b))
	}
}

// forge makes a packet of a generation about that which a side reads.
func (r *run) forge(who int, m *model, full int) {
	generation := max(0, m.reading+r.chance.IntN(5)-2)
	h := head(api.App, 1+r.chance.IntN(2))
	h.Phase = generation % 2
	if r.chance.IntN(10) == 0 {
		h.Phase = 1 - h.Phase
	}
	secret := secretOf(r.x, r.secrets[api.App][who], generation)
	r.packets = append(r.packets, packetOf(r.t, by(r.x, secret, h, full, contentOf(r.x, full), 3)))
}

// open lets a guard open a packet: most often one of the last.
func (r *run) open(g *guard.Guard, m *model) {
	if len(r.packets) == 0 {
		return
	}
	back := r.chance.IntN(min(len(r.packets), []int{5, 20, 100}[r.chance.IntN(3)]))
	p := r.packets[len(r.packets)-1-back]
	o, e := g.Open(p)
	want, wantE := m.open(p)
	r.alike("Open", e, wantE)
	if o != want {
		r.t.Fatalf("P12.2: Open(%+v): %+v, not %+v", p.Header, o, want)
	}
}

func TestP12AsTheWordsSay(t *testing.T) {
	errors, turned := map[api.Errno]int{}, 0
	for seed := range uint64(60) {
		x := term.New()
		r := &run{t: t, chance: rand.New(rand.NewPCG(12, seed)), x: x, errors: errors}
		for who := range 2 {
			r.guards[who], r.models[who] = guard.New(x), modelOf(x)
		}
		for level := range 4 {
			r.secrets[level] = [2]api.Term{x.Secret(), x.Secret()}
		}
		for i := range 1500 {
			r.step(i / 4)
		}
		turned = max(turned, r.turned)
	}
	for _, e := range []api.Errno{api.OK, api.ErrKey, api.ErrTwice, api.ErrSeal, api.ErrState} {
		if errors[e] < 500 {
			t.Errorf("P12: only %d of the error %d, of %v", errors[e], e, slices.Sorted(maps.Keys(errors)))
		}
	}
	if turned < 5 {
		t.Errorf("P12: only %d generations", turned)
	}
}

// sent is a packet that has not come yet.
type sent struct {
	p                header.Packet
	full, generation int
}

// talker is one side of a talk that keeps to P12.4's rule.
type talker struct {
	g     *guard.Guard
	next  [4]int // the numbers of its next packets
	shown int    // the greatest generation of which the other one has opened a packet
	sent  []sent
}

// generation is its writing one.
func (s *talker) generation() int {
	_, write := s.g.Phases()
	return write
}

// seal lets it seal a packet; some numbers are left out.
func (s *talker) seal(t *testing.T, x *term.Table, level, leap int) {
	t.Helper()
	full := s.next[level]
	s.next[level] += leap
	s.sent = append(s.sent, sent{sealed(t, x, s.g, level, full), full, s.generation()})
}

// bring lets the first one that has not come yet come to the other one, twice.
func (s *talker) bring(t *testing.T, x *term.Table, other *guard.Guard) {
	t.Helper()
	first := s.sent[0]
	s.sent = s.sent[1:]
	opens(t, x, other, first.p, first.full)
	shuts(t, other, first.p, api.ErrTwice)
	if first.p.Header.Kind == api.App {
		s.shown = first.generation
	}
}

func TestP12_4WhatOneSealsTheOtherOpens(t *testing.T) {
	turned := 0
	for seed := range uint64(40) {
		chance := rand.New(rand.NewPCG(124, seed))
		x, a, b := pair(t)
		sides := [2]*talker{{g: a, shown: -1}, {g: b, shown: -1}}
		for range 600 {
			who := chance.IntN(2)
			s, other := sides[who], sides[1-who]
			switch chance.IntN(8) {
			case 0:
				if s.shown == s.generation() {
					s.g.Update()
				}
			case 1, 2, 3:
				s.seal(t, x, [6]int{0, 1, 2, 3, 3, 3}[chance.IntN(6)], 1+chance.IntN(3))
			default:
				if len(s.sent) > 0 {
					s.bring(t, x, other.g)
				}
			}
		}
		turned = max(turned, sides[0].generation())
	}
	if turned < 5 {
		t.Errorf("P12.4: only %d generations", turned)
	}
}

func TestP12_4NothingOpensBehindADrop(t *testing.T) {
	for _, level := range levels {
		x, a, b := pair(t)
		var l []header.Packet
		for full := range 5 {
			l = append(l, sealed(t, x, a, level, full))
		}
		if level == api.App {
			opens(t, x, b, l[4], 4)
			updates(t, a, api.OK)
			l = append(l, sealed(t, x, a, level, 5))
			opens(t, x, b, l[5], 5)
			l = append(l, sealed(t, x, a, level, 6))
		}
		drops(t, b, level, api.OK)
		for _, p := range l {
			shuts(t, b, p, api.ErrKey)
			shuts(t, b, spoilt(p), api.ErrKey)
		}
	}
}

// Guards that stand on one table have nothing else in common.
func TestR5GuardsStandAlone(t *testing.T) {
	x := term.New()
	secret := x.Secret()
	var l []*guard.Guard
	for range 3 {
		g := guard.New(x)
		installs(t, g, api.App, secret, secret, api.OK)
		l = append(l, g)
	}
	updates(t, l[0], api.OK)
	drops(t, l[2], api.App, api.OK)
	phases(t, l[1], 0, 0)
	p := sealed(t, x, l[1], api.App, 3)
	opens(t, x, l[1], p, 3)
	opens(t, x, l[0], p, 3)
	shuts(t, l[2], p, api.ErrKey)
	opens(t, x, l[1], sealed(t, x, l[0], api.App, 4), 4)
	phases(t, l[1], 1, 1)
	phases(t, l[0], 0, 1)
}

func TestR4ArgumentsStay(t *testing.T) {
	room := func(s string) []byte { return append([]byte(s), "............................"...)[:len(s)] }
	untouched := func(b []byte, was string) bool {
		return string(b) == was && string(b[len(b):len(b)+28]) == "............................"
	}
	_, a, b := pair(t)
	h := header.Header{Version: 1, To: room("to"), From: room("from"), Token: room("token"), Width: 1}
	got, e := a.Seal(h, 9, 1, 4)
	if e != api.OK || !untouched(h.To, "to") || !untouched(h.From, "from") || !untouched(h.Token, "token") {
		t.Errorf("R4: Seal made %+v, %d", h, e)
	}
	// What was told is not kept.
	was := slices.Clone(got)
	clear(h.To)
	if again, _ := a.Seal(head(api.Initial, 1), 10, 1, 4); !bytes.Equal(got, was) || len(again) == 0 {
		t.Errorf("R4: %x, not %x", got, was)
	}
	p := packetOf(t, got)
	p.Head, p.Body = room(string(p.Head)), room(string(p.Body))
	head, body := string(p.Head), string(p.Body)
	if _, e := b.Open(p); e != api.OK || !untouched(p.Head, head) || !untouched(p.Body, body) {
		t.Errorf("R4: Open made %x, %x, %d", p.Head, p.Body, e)
	}
}
