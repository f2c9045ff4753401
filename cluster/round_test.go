package cluster_test

import (
	"slices"
	"testing"

	"hedgerow/api"
)

// mostEvents is how many events a delta has at most.
const mostEvents = 200

// joined is what any of those that run knows.
func (p *pair) joined() api.Vector {
	var v api.Vector
	for i := range p.c.Len() {
		for k, n := range p.c.Replica(i).Known() {
			v[k] = max(v[k], n)
		}
	}
	return v
}

// buffered is how many events those that run have in their buffers.
func (p *pair) buffered() int {
	n := 0
	for i := range p.c.Len() {
		n += len(p.c.Replica(i).Buffered())
	}
	return n
}

// near asks whether no one that runs lacks more events of another one than a delta has.
func (p *pair) near() bool {
	for i := range p.c.Len() {
		for j := range p.c.Len() {
			a, b, lacks := p.c.Replica(i), p.c.Replica(j), 0
			for k, n := range b.Known() {
				lacks += max(0, n-a.Known()[k])
			}
			if a.Running() && lacks > mostEvents {
				return false
			}
		}
	}
	return true
}

// allKnow fails a test, if one that runs doesn't know just this.
func (p *pair) allKnow(want api.Vector) {
	p.t.Helper()
	first := -1
	for i := range p.c.Len() {
		r := p.c.Replica(i)
		if !r.Running() {
			continue
		}
		if r.Known() != want {
			p.t.Fatalf("replica %d of %d knows %v, not %v", i, p.c.Len(), r.Known(), want)
		}
		if first < 0 {
			first = i
		}
		p.sees(i, p.c.Replica(first).View().Lines()...)
	}
}

// TestRoundP17_3: behind one round all know what any of them knew, behind a second one no buffer has anything.
func TestRoundP17_3(t *testing.T) {
	for n := 1; n <= api.MaxReplicas; n++ {
		p := pairOf(t, n)
		want := api.Vector{}
		for i := range n {
			p.must(writes(i, changes()[:1+i%len(changes())]...))
			want[i] = 1 + i%len(changes())
		}
		p.round()
		p.allKnow(want)
		p.round()
		p.allKnow(want)
		if p.buffered() != 0 {
			t.Errorf("of %d, %d events are buffered", n, p.buffered())
		}
	}
}

// TestRoundOfMostP17_3: each lacks just as much of each other one as a delta has.
func TestRoundOfMostP17_3(t *testing.T) {
	t.Parallel()
	for _, n := range []int{2, 3, 7, api.MaxReplicas} {
		p := pairOf(t, n)
		want := api.Vector{}
		for i := range n {
			p.must(writes(i, many(mostEvents)...))
			want[i] = mostEvents
		}
		p.round()
		p.allKnow(want)
		p.round()
		if p.buffered() != 0 {
			t.Errorf("of %d, %d events are buffered", n, p.buffered())
		}
	}
}

// TestRoundOfMoreP17_3: who lacks one more has it behind a second round.
func TestRoundOfMoreP17_3(t *testing.T) {
	p := pairOf(t, 2)
	p.must(writes(0, many(mostEvents+1)...))
	p.round()
	if known := p.c.Replica(1).Known(); known != (api.Vector{mostEvents}) {
		t.Errorf("behind a round is known %v", known)
	}
	p.round()
	p.allKnow(api.Vector{mostEvents + 1})
}

// TestAnyRoundP4P17_3 lets rounds come behind all sorts of things.
func TestAnyRoundP4P17_3(t *testing.T) {
	t.Parallel()
	rounds, far := 0, 0
	for seed := range int64(150) {
		g := groupOf(t, 4000+seed, 2+int(seed%5))
		g.spoil = seed%3 == 0
		for range 4 {
			for range 30 + g.r.Intn(60) {
				g.do(g.step())
			}
			if g.r.Intn(4) == 0 {
				g.must(writes(g.someone(), many(g.r.Intn(mostEvents+9))...))
			}
			if g.r.Intn(3) > 0 {
				for i := range g.c.Len() {
					g.do(of(again, i))
				}
			}
			if !g.near() {
				far++
				g.round()
				continue
			}
			rounds++
			g.twoRounds()
		}
	}
	if rounds < 400 || far < 5 {
		t.Errorf("%d rounds of those that were near, %d of others", rounds, far)
	}
}

// someone is a replica that runs, or is the first one, and runs from now on.
func (g *group) someone() int {
	for i := range g.c.Len() {
		if g.c.Replica(i).Running() {
			return i
		}
	}
	// All are stopped, and perhaps spoilt: such a group starts anew.
	g.pair = pairOf(g.t, g.c.Len())
	return 0
}

// twoRounds holds two rounds against the promise: of those that run, if some are stopped.
func (g *group) twoRounds() {
	g.t.Helper()
	want, flight := g.joined(), g.c.Flight()
	run := 0
	for i := range g.c.Len() {
		if g.c.Replica(i).Running() {
			run++
		}
	}
	g.round()
	g.allKnow(want)
	g.round()
	g.allKnow(want)
	if run == g.c.Len() && g.buffered() != 0 {
		g.t.Fatalf("behind two rounds %d events are buffered", g.buffered())
	}
	if g.c.Flight() != flight {
		g.t.Fatalf("behind two rounds Flight is %d, not %d", g.c.Flight(), flight)
	}
	g.kept()
}

// TestRoundOrderP17_1: a round goes by who asks, then by who is asked, and leaves behind what each heard by then.
func TestRoundOrderP17_1(t *testing.T) {
	p := pairOf(t, 3)
	p.must(writes(2, add("a")))
	p.round()
	// 0 asks 2 first; 1, that asks 0, has told it nothing of the event by then, and tells 2 of it; 2 hears of 0 when it asks.
	for i, want := range []int{1, 0, 0} {
		if got := len(p.c.Replica(i).Buffered()); got != want {
			t.Errorf("replica %d has %d events buffered, not %d", i, got, want)
		}
	}
	if got, _ := p.c.Replica(0).Acked(1); got != (api.Vector{}) {
		t.Errorf("0 heard that 1 knows %v", got)
	}
	if got, _ := p.c.Replica(1).Acked(0); got != (api.Vector{2: 1}) {
		t.Errorf("1 heard that 0 knows %v", got)
	}
}

// TestRoundOfStoppedP17_1: errors are passed over: who runs asks those that run, and who is stopped stays as it is.
func TestRoundOfStoppedP17_1(t *testing.T) {
	for stopped := range 4 {
		p := pairOf(t, 4)
		want := api.Vector{1, 1, 1, 1}
		for i := range 4 {
			p.must(writes(i, add("a")))
		}
		p.must(crashes(stopped, 0))
		want[stopped] = 0
		p.round()
		p.allKnow(want)
		p.round()
		if p.c.Replica(stopped).Running() || p.buffered() != 9 {
			t.Errorf("of those that run %d events are buffered", p.buffered())
		}
		p.must(of(again, stopped))
		want[stopped] = 1
		p.round()
		p.allKnow(want)
	}
	p := pairOf(t, 2)
	p.must(crashes(0, 0), crashes(1, 0))
	p.round()
}

// TestRoundAndNetP17_1: a round sends nothing, and what is under way stays so.
func TestRoundAndNetP17_1(t *testing.T) {
	p := pairOf(t, 2)
	p.must(writes(0, add("a")), ticks(1, 0), delivers(0))
	p.fill(0, 1)
	p.round()
	if p.c.Flight() != mostFlight {
		t.Fatalf("Flight is %d", p.c.Flight())
	}
	p.allKnow(api.Vector{1})
	for range mostFlight {
		p.must(delivers(0))
	}
	if p.c.Flight() == 0 || len(p.c.Told()) != 1 {
		t.Errorf("Flight is %d, Told %v", p.c.Flight(), p.c.Told())
	}
}

// TestRoundSyncsP17_1: who told what it knows in a round keeps it.
func TestRoundSyncsP17_1(t *testing.T) {
	p := pairOf(t, 2)
	p.must(writes(1, add("a")))
	p.round() // 0 hears it, then 1 asks it: it is synced
	p.must(crashes(0, 0), of(again, 0))
	p.sees(0, "node a")
	p.must(writes(0, add("b")))
	p.round() // 1 hears it last of all
	p.must(crashes(1, 0), of(again, 1))
	p.sees(1, "node a")
	p.round()
	p.sees(1, "node a", "node b")
	if !slices.Equal(p.c.Told(), []api.Dot{{Replica: 1, Count: 1}, {Replica: 0, Count: 1}}) {
		t.Errorf("Told is %v", p.c.Told())
	}
}
