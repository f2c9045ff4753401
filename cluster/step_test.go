package cluster_test

import (
	"math"
	"slices"
	"strings"
	"testing"

	"hedgerow/api"
)

// ofReplicas are the kinds of steps that have a replica R, ofParcels those that have a parcel I.
func ofReplicas() []int { return []int{write, tick, crash, again, compact, spoil, syncs} }

func ofParcels() []int { return []int{deliver, drop, double, turn} }

// TestKindsP17_1: the kinds of api are those of the chapter, and no others are there.
func TestKindsP17_1(t *testing.T) {
	given := []int{api.StepWrite, api.StepTick, api.StepDeliver, api.StepDrop, api.StepDouble, api.StepTurn, api.StepCrash, api.StepRecover, api.StepCompact, api.StepSpoil, api.StepSync}
	if !slices.Equal(given, []int{1, 2, 3, 4, 5, 6, 7, 8, 9, 10, 11}) || syncs != api.StepSync || again != api.StepRecover {
		t.Fatalf("the kinds are %v", given)
	}
	p := pairOf(t, 2)
	p.must(writes(0, add("a")), ticks(1, 0))
	for _, kind := range []int{0, -1, 12, 13, -11, 100, 255, 256, 257, 1<<32 + 1, math.MaxInt, math.MinInt} {
		for _, i := range []int{0, 1, 2, -1, math.MaxInt} {
			p.comes(api.Step{Kind: kind, R: i, S: 1 - i, I: i, Changes: []api.Change{add("b")}}, api.ErrArg)
		}
	}
}

// TestNoReplicaP17_1: a replica that isn't there is told of the kinds that have one, whatever else a step has.
func TestNoReplicaP17_1(t *testing.T) {
	for _, n := range []int{1, 2, 15, 16} {
		p := pairOf(t, n)
		p.must(writes(0, add("a")))
		for _, kind := range ofReplicas() {
			for _, r := range []int{n, n + 1, 16, 17, -1, -n, 1 << 32, math.MaxInt, math.MinInt} {
				p.comes(api.Step{Kind: kind, R: r}, api.ErrNone)
				p.comes(api.Step{Kind: kind, R: r, S: -1, I: -1, Keep: -1, At: -1, By: 255, Changes: []api.Change{{}}}, api.ErrNone)
			}
		}
	}
}

// TestParcelsHaveNoReplicaP17_1: of the kinds that have a parcel no R is asked for.
func TestParcelsHaveNoReplicaP17_1(t *testing.T) {
	for _, kind := range ofParcels() {
		for _, r := range []int{2, 16, -1, math.MaxInt, math.MinInt} {
			p := pairOf(t, 2)
			p.must(ticks(0, 1), ticks(1, 0))
			p.must(api.Step{Kind: kind, R: r, S: r, I: 1, At: 3, By: 1})
		}
	}
}

// TestNoParcelP17_1: a parcel that isn't there is told, and nothing changes.
func TestNoParcelP17_1(t *testing.T) {
	for k := range 3 {
		p := pairOf(t, 2)
		for range k {
			p.must(ticks(0, 1))
		}
		for _, kind := range ofParcels() {
			for _, i := range []int{k, k + 1, -1, -k - 1, 255, 256, 1 << 32, math.MaxInt, math.MinInt} {
				p.comes(api.Step{Kind: kind, I: i}, api.ErrNone)
				p.comes(api.Step{Kind: kind, I: i, At: -1}, api.ErrNone)
			}
		}
	}
}

func TestWriteP17_1(t *testing.T) {
	p := pairOf(t, 3)
	p.must(writes(1, add("a"), setNum("a", "p", 7)), writes(1))
	p.sees(1, "node a", "prop a p 7")
	p.sees(0)
	for _, l := range [][]api.Change{{{}}, {add("b"), add("")}, {setNum("a", "p", math.MaxInt)}, {{Op: api.OpSet, Elem: add("a").Elem}}, {add(strings.Repeat("n", 17))}} {
		p.comes(writes(1, l...), api.ErrArg)
	}
	p.must(crashes(1, 0))
	p.comes(writes(1, add("b")), api.ErrStopped)
	p.comes(writes(1, api.Change{}), api.ErrStopped)
}

func TestTickP17_1(t *testing.T) {
	for n := 1; n <= 4; n++ {
		for r := range n {
			for _, s := range []int{-1, 0, 1, 2, 3, 4, 15, 16, math.MaxInt, math.MinInt} {
				p := pairOf(t, n)
				want := api.ErrNone
				if s >= 0 && s < n && s != r {
					want = api.OK
				}
				p.comes(ticks(r, s), want)
				p.must(crashes(r, 0))
				p.comes(ticks(r, s), api.ErrStopped)
			}
		}
	}
}

// TestTickSyncsP17_1: what a digest tells stays.
func TestTickSyncsP17_1(t *testing.T) {
	p := pairOf(t, 3)
	p.must(writes(0, add("a")))
	p.must(hears(1, 0)...)
	if size, synced := p.c.Replica(1).Disk(); size == synced {
		t.Fatal("what was received is synced")
	}
	p.comes(ticks(1, 3), api.ErrNone)
	if size, synced := p.c.Replica(1).Disk(); size == synced {
		t.Fatal("a tick to nobody syncs")
	}
	p.must(ticks(1, 2), crashes(1, 0), of(again, 1))
	p.sees(1, "node a")
}

// fill lets so many parcels be under way from one to another, as there may be.
func (p *pair) fill(r, s int) {
	p.t.Helper()
	for p.c.Flight() < mostFlight {
		if err := p.do(ticks(r, s)); err != api.OK {
			p.t.Fatalf("tick %d comes to %d", p.c.Flight(), err)
		}
	}
	p.held("full")
}

// TestFullP17_1: there are MaxFlight parcels at most; a tick that finds no room changes nothing, as do all steps that come to an error.
func TestFullP17_1(t *testing.T) {
	p := pairOf(t, 3)
	p.must(writes(0, add("a")))
	p.must(hears(1, 0)...)
	p.fill(2, 0)
	if p.c.Flight() != api.MaxFlight {
		t.Fatalf("Flight is %d", p.c.Flight())
	}
	p.comes(ticks(1, 0), api.ErrFull)
	p.comes(ticks(2, 0), api.ErrFull)
	p.comes(ticks(1, 1), api.ErrNone)
	p.comes(ticks(1, 3), api.ErrNone)
	p.comes(at(double, 0), api.ErrFull)
	p.comes(at(double, mostFlight), api.ErrNone)
	if size, synced := p.c.Replica(1).Disk(); size == synced {
		t.Fatal("a tick that comes to an error syncs")
	}
	// One is taken out, and one goes back.
	p.must(delivers(7))
	p.comes(ticks(1, 0), api.ErrFull)
	p.must(at(drop, 3), ticks(1, 0))
	if size, synced := p.c.Replica(1).Disk(); size != synced {
		t.Fatal("a tick syncs nothing")
	}
	p.comes(ticks(1, 0), api.ErrFull)
	p.must(crashes(1, 0))
	p.comes(ticks(1, 0), api.ErrStopped)
	p.comes(ticks(1, 9), api.ErrStopped)
}

// TestDeliverP17_1: a digest brings a delta back, behind all that is under way; a delta brings nothing back.
func TestDeliverP17_1(t *testing.T) {
	p := pairOf(t, 3)
	p.must(writes(0, add("a")), ticks(1, 0), ticks(2, 0), ticks(2, 1))
	p.must(delivers(0)) // a delta to 1 is number 2 now
	if p.c.Flight() != 3 {
		t.Fatalf("Flight is %d", p.c.Flight())
	}
	p.must(delivers(2))
	p.sees(1, "node a")
	p.sees(2)
	if p.c.Flight() != 2 {
		t.Fatalf("Flight is %d", p.c.Flight())
	}
	p.must(delivers(1), delivers(1)) // 1 answers 2
	p.sees(2, "node a")
	p.must(delivers(0), delivers(0))
	if p.c.Flight() != 0 {
		t.Fatalf("Flight is %d", p.c.Flight())
	}
}

// TestDeliverStaysOutP17_1: a parcel stays out, whatever the step comes to.
func TestDeliverStaysOutP17_1(t *testing.T) {
	p := pairOf(t, 2)
	p.must(writes(0, add("a")), ticks(1, 0), at(double, 0), api.Step{Kind: turn, I: 1, At: 5, By: 1}, crashes(0, 0))
	p.comes(delivers(0), api.ErrStopped)
	p.must(of(again, 0))
	if p.c.Flight() != 1 {
		t.Fatalf("Flight is %d", p.c.Flight())
	}
	p.comes(delivers(0), api.ErrCheck)
	if p.c.Flight() != 0 {
		t.Fatalf("Flight is %d", p.c.Flight())
	}
	p.comes(delivers(0), api.ErrNone)
	p.must(hears(1, 0)...)
	p.sees(1, "node a")
}

// TestDeliverToFullDiskP17_1: a delta that doesn't fit on a disk is told, and gone.
func TestDeliverToFullDiskP17_1(t *testing.T) {
	p := pairOf(t, 2)
	p.stuff(1)
	p.must(writes(0, many(50)...), ticks(1, 0), delivers(0))
	p.comes(delivers(0), api.ErrFull)
	if p.c.Flight() != 0 {
		t.Fatalf("Flight is %d", p.c.Flight())
	}
	p.comes(writes(1, many(50)...), api.ErrFull)
	p.comes(of(syncs, 1), api.OK)
	p.round() // 1 takes nothing in; 0 hears of 1 all the same
	if a, b := p.c.Replica(0).Known(), p.c.Replica(1).Known(); a[1] != 200 || b[0] != 0 {
		t.Fatalf("behind a round are known %v, %v", a, b)
	}
}

// stuff fills a replica's disk, so that 50 changes more don't fit.
func (p *pair) stuff(r int) {
	p.t.Helper()
	text := setNum("a", "p", 0)
	text.Value = api.Value{Kind: api.Text, Text: strings.Repeat("x", api.MaxText)}
	l := slices.Repeat([]api.Change{text}, 50)
	for p.do(writes(r, l...)) == api.OK {
	}
	for p.do(writes(r, many(50)...)) == api.OK {
	}
	p.held("a full disk")
}

func TestDropP17_1(t *testing.T) {
	p := pairOf(t, 3)
	p.must(writes(0, add("a")), ticks(1, 2), ticks(1, 0), ticks(2, 1))
	p.must(at(drop, 0), at(drop, 1))
	if p.c.Flight() != 1 {
		t.Fatalf("Flight is %d", p.c.Flight())
	}
	p.must(delivers(0), delivers(0))
	p.sees(1, "node a")
}

// TestDoubleP17_1: one that is doubled is received twice.
func TestDoubleP17_1(t *testing.T) {
	p := pairOf(t, 2)
	p.must(writes(0, add("a")), ticks(1, 0), at(double, 0), delivers(0), at(double, 1))
	if p.c.Flight() != 3 {
		t.Fatalf("Flight is %d", p.c.Flight())
	}
	p.must(delivers(0), delivers(0), delivers(0), delivers(0))
	p.sees(1, "node a")
	if size, _ := p.c.Replica(1).Disk(); size == 0 || p.c.Flight() != 0 || p.c.Replica(1).Known() != (api.Vector{1}) {
		t.Fatalf("Flight is %d", p.c.Flight())
	}
}

// TestTurnP17_1: one byte of a parcel is turned, once.
func TestTurnP17_1(t *testing.T) {
	p := pairOf(t, 2)
	p.must(writes(0, add("a")), ticks(1, 0))
	for _, k := range []int{-1, 28, 29, 1 << 32, math.MaxInt, math.MinInt} {
		p.comes(api.Step{Kind: turn, I: 0, At: k, By: 1}, api.ErrRange)
	}
	p.must(api.Step{Kind: turn, I: 0, At: 27, By: 128})
	p.comes(api.Step{Kind: turn, I: 0, At: 27, By: 128}, api.ErrArg)
	p.comes(api.Step{Kind: turn, I: 0, At: 28, By: 128}, api.ErrRange)
	p.comes(delivers(0), api.ErrCheck)
	p.must(ticks(1, 0), api.Step{Kind: turn, I: 0, At: 0})
	p.must(delivers(0), delivers(0)) // it was turned by no bits
	p.sees(1, "node a")
}

func TestCrashP17_1(t *testing.T) {
	size := func(p *pair) int { n, _ := p.c.Replica(1).Disk(); return n }
	of3 := func() *pair {
		p := pairOf(t, 2)
		p.must(writes(1, add("a")), writes(0, add("b"), add("c")))
		p.must(hears(1, 0)...)
		return p
	}
	all := of3()
	for keep := -2; keep <= size(all)+2; keep++ {
		for _, k := range []int{-1, 0, 1, keep - 1, keep, math.MaxInt} {
			p := of3()
			p.must(api.Step{Kind: crash, R: 1, Keep: keep, At: k, By: 64})
			p.sees(1)
			for _, kind := range []int{write, tick, crash, compact, spoil, syncs} {
				p.comes(api.Step{Kind: kind, R: 1}, api.ErrStopped)
			}
			p.must(of(again, 1))
		}
	}
}

func TestRecoverP17_1(t *testing.T) {
	p := pairOf(t, 2)
	p.comes(of(again, 0), api.ErrNone)
	p.must(writes(0, add("a")), crashes(0, 0), of(again, 0))
	p.sees(0, "node a")
	p.comes(of(again, 0), api.ErrNone)
	p.must(api.Step{Kind: spoil, R: 0, At: 9, By: 1}, crashes(0, 0))
	p.comes(of(again, 0), api.ErrCheck)
	p.comes(of(again, 0), api.ErrCheck)
	p.comes(writes(0), api.ErrStopped)
}

func TestCompactP17_1(t *testing.T) {
	p := pairOf(t, 2)
	p.must(writes(0, many(30)...))
	before, _ := p.c.Replica(0).Disk()
	p.round()
	p.round()
	p.must(of(compact, 0))
	if after, synced := p.c.Replica(0).Disk(); after >= before || synced != after {
		t.Errorf("of %d bytes are left %d, %d synced", before, after, synced)
	}
	p.must(writes(1, add("a")))
	p.must(hears(0, 1)...)
	p.must(crashes(0, 0), of(again, 0))
	p.sees(0)
	if p.c.Replica(0).Known() != (api.Vector{30}) {
		t.Errorf("known is %v", p.c.Replica(0).Known())
	}
}

func TestSpoilP17_1(t *testing.T) {
	p := pairOf(t, 2)
	for _, k := range []int{0, -1, 1, math.MaxInt, math.MinInt} {
		p.comes(api.Step{Kind: spoil, R: 0, At: k, By: 1}, api.ErrRange)
	}
	p.must(writes(0, add("a")))
	size, _ := p.c.Replica(0).Disk()
	for _, k := range []int{size, -1, math.MaxInt, math.MinInt} {
		p.comes(api.Step{Kind: spoil, R: 0, At: k, By: 1}, api.ErrRange)
	}
	p.must(api.Step{Kind: spoil, R: 0, At: size - 1})
	p.comes(api.Step{Kind: spoil, R: 0, At: size - 1, By: 1}, api.ErrNone)
	p.must(of(compact, 0), api.Step{Kind: spoil, R: 0, At: 0, By: 255})
	p.sees(0, "node a")
	p.must(crashes(0, 0))
	if p.do(of(again, 0)) == api.OK {
		t.Error("a spoilt byte isn't told")
	}
	p.comes(api.Step{Kind: spoil, R: 0, By: 1}, api.ErrStopped)
}

func TestSyncP17_1(t *testing.T) {
	for _, first := range []bool{false, true} {
		p := pairOf(t, 2)
		p.must(writes(0, add("a")))
		p.must(hears(1, 0)...)
		if first {
			p.must(of(syncs, 1))
		}
		p.must(crashes(1, 0), of(again, 1))
		if got := p.c.Replica(1).View().Has("a"); got != first {
			t.Errorf("synced %v, it is there %v", first, got)
		}
	}
}
