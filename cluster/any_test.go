package cluster_test

import (
	"math/rand"
	"slices"
	"testing"

	"hedgerow/api"
)

// group is a cluster that is led by chance.
type group struct {
	*pair
	r     *rand.Rand
	spoil bool // whether bytes are spoilt
	odd   int  // of so many numbers one is any
}

func groupOf(t *testing.T, seed int64, n int) *group {
	t.Helper()
	return &group{pair: pairOf(t, n), r: rand.New(rand.NewSource(seed)), spoil: true, odd: 15}
}

// num is a number below n, most often.
func (g *group) num(n int) int {
	if n < 1 || g.r.Intn(g.odd) == 0 {
		return numbers()[g.r.Intn(len(numbers()))]
	}
	return g.r.Intn(n)
}

// row is some changes; now and then one of them may not be.
func (g *group) row() []api.Change {
	var l []api.Change
	for range g.r.Intn(5) {
		l = append(l, changes()[g.r.Intn(len(changes()))])
	}
	if g.r.Intn(25) == 0 {
		l = append(l, api.Change{Op: g.r.Intn(6)})
	}
	return l
}

// kind is one of a step: those that bring something about come more often.
func (g *group) kind() int {
	if g.r.Intn(60) == 0 {
		return numbers()[g.r.Intn(len(numbers()))]
	}
	often := []int{write, write, tick, tick, tick, tick, deliver, deliver, deliver, deliver, deliver, deliver, deliver, drop, double, turn, crash, again, again, compact, syncs}
	if g.spoil {
		often = append(often, spoil)
	}
	return often[g.r.Intn(len(often))]
}

// step is any.
func (g *group) step() api.Step {
	n := len(g.m.replicas)
	s := api.Step{Kind: g.kind(), R: g.num(n), S: g.num(n), I: g.num(len(g.m.under)), By: byte(g.r.Intn(256) >> g.r.Intn(9))}
	most := 40
	if s.R >= 0 && s.R < n {
		size, synced := g.m.replicas[s.R].Disk()
		switch s.Kind {
		case spoil:
			most = size
		case crash:
			most = size - synced + 1
		}
	}
	s.Keep, s.At = g.num(most), g.num(most)
	if s.Kind == write {
		s.Changes = g.row()
	}
	return s
}

// kept holds what was told to clients against what their replicas know, and what those see that know the same.
func (g *group) kept() {
	g.t.Helper()
	for _, d := range g.c.Told() {
		if r := g.c.Replica(d.Replica); r.Running() && r.Known()[d.Replica] < d.Count {
			g.t.Fatalf("%v was told, but replica %d knows %v", d, d.Replica, r.Known())
		}
	}
	seen := map[api.Vector][]string{}
	for i := range g.c.Len() {
		r := g.c.Replica(i)
		if !r.Running() {
			continue
		}
		lines := r.View().Lines()
		if other, ok := seen[r.Known()]; ok && !slices.Equal(lines, other) {
			g.t.Fatalf("of those that know %v one sees %q, one %q", r.Known(), lines, other)
		}
		seen[r.Known()] = lines
	}
}

// TestAnyP17_1 holds clusters that do all sorts of things against models, step by step.
func TestAnyP17_1(t *testing.T) {
	t.Parallel()
	var came [15]int
	for seed := range int64(120) {
		g := groupOf(t, seed, 1+int(seed%5))
		if g.c.Len() > 1 && seed%3 == 0 {
			g.fill(0, 1)
		}
		for range 200 {
			if g.r.Intn(60) == 0 {
				g.round()
			}
			s := g.step()
			came[g.do(s)]++
			g.held("a step")
		}
	}
	for _, err := range []api.Errno{api.OK, api.ErrArg, api.ErrRange, api.ErrNone, api.ErrFull, api.ErrCheck, api.ErrStopped} {
		if came[err] < 20 {
			t.Errorf("%d steps come to %d", came[err], err)
		}
	}
}

// TestAnyP17_2P17_4: replicas see the same whenever they know the same, and know what they told.
func TestAnyP17_2P17_4(t *testing.T) {
	t.Parallel()
	for seed := range int64(80) {
		g := groupOf(t, 1000+seed, 2+int(seed%4))
		for range 200 {
			g.do(g.step())
			if g.r.Intn(40) == 0 {
				g.round()
			}
			g.kept()
		}
		for i := range g.c.Len() {
			g.do(crashes(i, 0))
			g.do(of(again, i))
		}
		g.kept()
	}
}

// peerTold holds what each replica is known to know, since it told so, against what it knows.
func (g *group) peerTold() {
	g.t.Helper()
	for i := range g.c.Len() {
		for j := range g.c.Len() {
			r := g.c.Replica(j)
			heard, peer := g.c.Replica(i).Acked(j)
			if !peer || !r.Running() {
				continue
			}
			for k, n := range r.Known() {
				if n < heard[k] {
					g.t.Fatalf("replica %d told %d that it knows %v, but it knows %v", j, i, heard, r.Known())
				}
			}
		}
	}
}

// TestPeerToldP17_4: what a peer was told is known, behind each crash, whatever was synced by then.
func TestPeerToldP17_4(t *testing.T) {
	t.Parallel()
	for seed := range int64(60) {
		g := groupOf(t, 2000+seed, 2+int(seed%3))
		g.spoil = false
		for range 200 {
			g.do(g.step())
			if g.r.Intn(10) == 0 {
				i := g.r.Intn(g.c.Len())
				g.do(crashes(i, g.r.Intn(30)-1))
				g.do(of(again, i))
			}
			g.peerTold()
			g.kept()
		}
	}
}

// TestNoPanicP5 does steps at arguments of all sorts: a panic fails it, and so does what doesn't end.
func TestNoPanicP5(t *testing.T) {
	t.Parallel()
	for seed := range int64(40) {
		g := groupOf(t, 3000+seed, 1+int(seed%16))
		g.odd = 2
		for range 150 {
			g.do(g.step())
		}
		g.round()
	}
}
