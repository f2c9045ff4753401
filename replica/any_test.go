package replica_test

import (
	"bytes"
	"math/rand"
	"slices"
	"testing"

	"hedgerow/api"
)

// Kinds of ways that a group of replicas may be led.
const (
	honest = iota // no message is made up, and no byte that was synced is spoilt
	forged        // messages are made up, too, and turned
	spoilt        // bytes are spoilt
)

// group is some replicas, what is under way, and what each of them told.
type group struct {
	t        *testing.T
	r        *rand.Rand
	way      int
	pairs    []*pair
	under    [][]byte
	told     []api.Vector
	recovers int
}

func groupOf(t *testing.T, seed int64, n, way int) *group {
	g := &group{t: t, r: rand.New(rand.NewSource(seed)), way: way, told: make([]api.Vector, n)}
	for i := range n {
		g.pairs = append(g.pairs, pairOf(t, n, i))
	}
	return g
}

// tells keeps what a replica told: its messages' Known, and its own events.
func (g *group) tells(i int, b []byte) {
	m := read(g.t, b)
	for j, n := range m.Known {
		g.told[i][j] = max(g.told[i][j], n)
	}
	g.under = append(g.under, b)
}

// row is some changes; now and then one of them may not be.
func (g *group) row() []api.Change {
	var l []api.Change
	for range g.r.Intn(4) {
		l = append(l, changes()[g.r.Intn(len(changes()))])
	}
	if g.r.Intn(20) == 0 {
		l = append(l, api.Change{Op: g.r.Intn(6)})
	}
	return l
}

// forge is a message that nobody sent: its events may come, or not.
func (g *group) forge() []byte {
	p := g.pairs[g.r.Intn(len(g.pairs))]
	m := api.Message{Kind: api.MsgDigest, From: g.r.Intn(len(g.pairs) + 1), To: p.m.self, Known: p.r.Known()}
	if m.From == m.To {
		m.From = (m.To + 1) % api.MaxReplicas
	}
	for i := range m.Known {
		m.Known[i] = max(0, m.Known[i]+g.r.Intn(4)-2)
	}
	if g.r.Intn(4) == 0 {
		return digestOf(g.t, m.From, m.To, m.Known)
	}
	known := p.r.Known()
	var l []api.Event
	for range g.r.Intn(4) {
		by := []int{m.From % api.MaxReplicas, m.To, g.r.Intn(api.MaxReplicas)}[g.r.Intn(3)]
		e := eventsOf(by, known, changes()[:1+g.r.Intn(5)])
		for _, x := range e[:g.r.Intn(len(e)+1)] {
			if g.r.Intn(8) == 0 {
				x.Past[(by+1)%api.MaxReplicas] += g.r.Intn(2)
			}
			if g.r.Intn(8) > 0 {
				l = append(l, x)
			}
			known[by] = max(known[by], x.Dot.Count)
		}
	}
	for _, e := range l {
		m.Known[e.Dot.Replica] = max(m.Known[e.Dot.Replica], e.Dot.Count)
	}
	return deltaOf(g.t, m.From, m.To, m.Known, l)
}

// deliver lets whom it is to receive something that is under way, which stays there now and then.
func (g *group) deliver() {
	if g.way == forged && g.r.Intn(3) == 0 {
		g.under = append(g.under, g.forge())
	}
	if len(g.under) == 0 {
		return
	}
	at := g.r.Intn(len(g.under))
	b := bytes.Clone(g.under[at])
	if g.r.Intn(3) > 0 {
		g.under = slices.Delete(g.under, at, at+1)
	}
	to := read(g.t, b).To
	if g.r.Intn(10) == 0 {
		to = g.r.Intn(len(g.pairs))
	}
	if g.way == forged && g.r.Intn(10) == 0 {
		b[g.r.Intn(len(b))] ^= byte(1 + g.r.Intn(255))
	}
	if back, _, err := g.pairs[to].receive(b); err == api.OK && len(back) > 0 {
		g.tells(to, back)
	}
}

// crash lets one crash, and most often recover.
func (g *group) crash(i int) {
	p := g.pairs[i]
	size, synced := p.r.Disk()
	keep := g.r.Intn(size-synced+3) - 1
	p.crash(keep, g.r.Intn(size-synced+3)-1, byte(g.r.Intn(256)>>g.r.Intn(9)))
	if g.r.Intn(3) > 0 && p.recover() == api.OK {
		g.recovers++
	}
}

// step does something, by somebody.
func (g *group) step() {
	i := g.r.Intn(len(g.pairs))
	p := g.pairs[i]
	switch g.r.Intn(14) {
	case 0, 1:
		if l, err := p.write(g.row()...); err == api.OK && len(l) > 0 {
			g.told[i][i] = l[len(l)-1].Dot.Count
		}
	case 2, 3, 4:
		if b, err := p.digest(g.r.Intn(len(g.pairs)+2) - 1); err == api.OK {
			g.tells(i, b)
		}
	case 5, 6, 7, 8:
		g.deliver()
	case 9:
		g.crash(i)
	case 10:
		if p.recover() == api.OK {
			g.recovers++
		}
	case 11:
		p.compact()
	case 12:
		p.sync()
	case 13:
		if g.way == spoilt {
			size, _ := p.r.Disk()
			p.spoil(g.r.Intn(size+3)-1, byte(g.r.Intn(3)/2))
		}
	}
}

// kept holds what each one told against what it knows, if it runs; and what those see that know the same.
func (g *group) kept() {
	seen := map[api.Vector][]string{}
	for i, p := range g.pairs {
		if !p.r.Running() {
			continue
		}
		known := p.r.Known()
		if !below(g.told[i], known) {
			g.t.Fatalf("replica %d told %v, but knows %v", i, g.told[i], known)
		}
		lines := p.r.View().Lines()
		if other, ok := seen[known]; ok && !slices.Equal(lines, other) {
			g.t.Fatalf("of those that know %v one sees %q, one %q", known, lines, other)
		}
		seen[known] = lines
	}
}

// TestAnyP15_1 holds replicas that do all sorts of things against models, call by call.
func TestAnyP15_1(t *testing.T) {
	t.Parallel()
	for _, way := range []int{honest, forged, spoilt} {
		recovers := 0
		for seed := range int64(60) {
			g := groupOf(t, seed, 1+int(seed%4), way)
			for range 250 {
				g.step()
			}
			recovers += g.recovers
		}
		if recovers < 100 {
			t.Errorf("in way %d there were %d Recovers", way, recovers)
		}
	}
}

// TestToldP15_2: what was told to a client, or a peer, is known again behind each crash.
func TestToldP15_2(t *testing.T) {
	t.Parallel()
	for seed := range int64(60) {
		g := groupOf(t, 1000+seed, 2+int(seed%3), honest)
		for range 250 {
			g.step()
			g.kept()
		}
		for _, p := range g.pairs {
			if p.r.Running() {
				p.crash(0, 0, 0)
			}
			p.must(p.recover(), api.OK)
		}
		g.kept()
	}
}

// TestNoPanicP5 asks all calls at arguments of all sorts: a panic fails it, and so does what doesn't end.
func TestNoPanicP5(t *testing.T) {
	r := rand.New(rand.NewSource(15))
	num := func() int { return numbers()[r.Intn(len(numbers()))] }
	wrong := wrongChanges()
	for range 300 {
		n := 1 + r.Intn(3)
		p := pairOf(t, n, r.Intn(n))
		for range 40 {
			switch r.Intn(9) {
			case 0:
				l := slices.Clone(changes()[:r.Intn(5)])
				for _, c := range wrong {
					if r.Intn(40) == 0 {
						l = append(l, c)
					}
				}
				p.write(l...)
			case 1:
				p.digest(num())
			case 2:
				b := make([]byte, r.Intn(60))
				r.Read(b)
				p.receive(b)
				p.receive(framed(b...))
			case 3:
				p.compact()
			case 4:
				p.crash(num(), num(), byte(r.Intn(256)))
			case 5:
				p.spoil(num(), byte(r.Intn(256)))
			case 6, 7:
				p.recover()
			case 8:
				p.sync()
			}
		}
	}
}
