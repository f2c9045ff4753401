package cluster_test

import (
	"math"
	"slices"
	"testing"

	"hedgerow/api"
	"hedgerow/cluster"
	"hedgerow/replica"
)

// TestExampleP17_1: a write, a tick, two deliveries: the other replica sees it.
func TestExampleP17_1(t *testing.T) {
	c := cluster.New(2)
	l := []api.Step{
		{Kind: api.StepWrite, R: 0, Changes: []api.Change{add("a")}},
		{Kind: api.StepTick, R: 1, S: 0},
		{Kind: api.StepDeliver, I: 0},
		{Kind: api.StepDeliver, I: 0},
	}
	if got := c.Run(l); !slices.Equal(got, make([]api.Errno, 4)) {
		t.Fatalf("Run tells %v", got)
	}
	if got := c.Replica(1).View().Lines(); !slices.Equal(got, []string{"node a"}) {
		t.Errorf("the other one sees %q", got)
	}
	if got := c.Told(); !slices.Equal(got, []api.Dot{{Replica: 0, Count: 1}}) || c.Flight() != 0 {
		t.Errorf("Told is %v, Flight %d", got, c.Flight())
	}
}

func TestNewP17_1(t *testing.T) {
	for n := 1; n <= api.MaxReplicas; n++ {
		p := pairOf(t, n)
		for i := range n {
			if known := p.c.Replica(i).Known(); !p.c.Replica(i).Running() || known != (api.Vector{}) {
				t.Fatalf("replica %d of %d knows %v", i, n, known)
			}
			p.must(writes(i, add("a")))
			if p.c.Replica(i).Known()[i] != 1 {
				t.Fatalf("replica %d of %d has another number", i, n)
			}
		}
	}
	for _, n := range []int{0, -1, -16, 17, 18, 256, math.MaxInt, math.MinInt} {
		if cluster.New(n) != nil {
			t.Errorf("there is a cluster of %d", n)
		}
	}
	a, b := pairOf(t, 2), pairOf(t, 2)
	a.must(writes(0, add("a")), ticks(0, 1))
	b.held("another one")
}

func TestReplicaP17_1(t *testing.T) {
	for n := 1; n <= api.MaxReplicas; n++ {
		c := cluster.New(n)
		seen := map[*replica.Replica]bool{}
		for i := range n {
			seen[c.Replica(i)] = true
			if c.Replica(i) != c.Replica(i) {
				t.Fatal("Replica tells another one each time")
			}
		}
		if len(seen) != n || seen[nil] {
			t.Fatalf("of %d there are %d replicas", n, len(seen))
		}
		for _, i := range []int{n, n + 1, 16, -1, -n, 1 << 32, math.MaxInt, math.MinInt} {
			if c.Replica(i) != nil {
				t.Errorf("of %d, there is a replica %d", n, i)
			}
		}
	}
}

// TestReplicaIsTheClustersP17_1: what is asked of a replica itself, the cluster's steps know.
func TestReplicaIsTheClustersP17_1(t *testing.T) {
	c := cluster.New(2)
	c.Replica(0).Write([]api.Change{add("a")})
	c.Replica(1).Crash(0, -1, 0)
	if c.Do(ticks(1, 0)) != api.ErrStopped || c.Do(of(again, 1)) != api.OK {
		t.Fatal("a crash of a replica itself isn't one of the cluster's")
	}
	c.Round()
	if known := c.Replica(1).Known(); known != (api.Vector{1}) {
		t.Fatalf("behind a round is known %v", known)
	}
}

// TestNilP17_1: a nil cluster answers ErrArg, nil, 0, nothing.
func TestNilP17_1(t *testing.T) {
	var c *cluster.Cluster
	for _, kind := range numbers() {
		s := api.Step{Kind: kind, Changes: []api.Change{add("a")}}
		if err := c.Do(s); err != api.ErrArg {
			t.Errorf("Do of kind %d tells %d", kind, err)
		}
		if got := c.Run([]api.Step{s, s}); !slices.Equal(got, []api.Errno{api.ErrArg, api.ErrArg}) {
			t.Errorf("Run of kind %d tells %v", kind, got)
		}
	}
	for _, i := range numbers() {
		if c.Replica(i) != nil {
			t.Errorf("there is a replica %d", i)
		}
	}
	c.Round()
	if len(c.Run(nil)) > 0 || c.Len() != 0 || c.Flight() != 0 || len(c.Told()) > 0 {
		t.Error("a nil cluster has something")
	}
}

// TestZeroP5: a cluster that New didn't make panics as little.
func TestZeroP5(t *testing.T) {
	c := &cluster.Cluster{}
	for _, kind := range numbers() {
		for _, i := range numbers() {
			c.Do(api.Step{Kind: kind, R: i, S: i, I: i, Keep: i, At: i, Changes: []api.Change{add("a")}})
			c.Replica(i)
		}
	}
	c.Round()
	if len(c.Run(make([]api.Step, 3))) != 3 || c.Len() != 0 || c.Flight() != 0 || len(c.Told()) > 0 {
		t.Error("a zero cluster has something")
	}
}

// TestRunP17_1: a row of steps is done in order, whatever each of them comes to.
func TestRunP17_1(t *testing.T) {
	c := cluster.New(3)
	l := []api.Step{
		writes(0, add("a")), writes(3, add("a")), writes(0, add("9")), {Kind: 12}, {},
		ticks(1, 0), ticks(1, 1), ticks(2, 0), delivers(1), delivers(1), delivers(2),
		at(drop, 0), at(turn, 0), of(syncs, 1), of(again, 1), crashes(1, 0), of(syncs, 1), ticks(2, 1), writes(1), of(again, 1),
		{Kind: spoil, R: 2, At: 9999}, of(compact, 2), writes(2, remove("a")), at(double, 0),
	}
	want := []api.Errno{
		api.OK, api.ErrNone, api.ErrArg, api.ErrArg, api.ErrArg,
		api.OK, api.ErrNone, api.OK, api.OK, api.OK, api.ErrNone,
		api.OK, api.ErrNone, api.OK, api.ErrNone, api.OK, api.ErrStopped, api.OK, api.ErrStopped, api.OK,
		api.ErrRange, api.OK, api.OK, api.OK,
	}
	before := slices.Clone(l)
	got := c.Run(l)
	if !slices.Equal(got, want) {
		t.Errorf("Run tells %v, not %v", got, want)
	}
	for i := range l {
		if l[i].Kind != before[i].Kind || !slices.Equal(l[i].Changes, before[i].Changes) {
			t.Errorf("Run changes step %d", i)
		}
	}
	told := []api.Dot{{Replica: 0, Count: 1}, {Replica: 2, Count: 1}}
	if c.Flight() != 2 || c.Replica(2).Known() != (api.Vector{1, 0, 1}) || c.Replica(1).Known() != (api.Vector{}) || !slices.Equal(c.Told(), told) {
		t.Errorf("Flight is %d, known %v, %v, Told %v", c.Flight(), c.Replica(2).Known(), c.Replica(1).Known(), c.Told())
	}
	if got := c.Run(nil); len(got) > 0 {
		t.Errorf("Run of nothing tells %v", got)
	}
	if got := c.Run([]api.Step{}); len(got) > 0 {
		t.Errorf("Run of an empty row tells %v", got)
	}
}

// TestRunAsDoP17_1: Run tells what Do tells, step by step.
func TestRunAsDoP17_1(t *testing.T) {
	for seed := range int64(20) {
		g := groupOf(t, seed, 1+int(seed%4))
		var l []api.Step
		var want []api.Errno
		for range 150 {
			s := g.step()
			l = append(l, s)
			want = append(want, g.do(s))
		}
		c := cluster.New(g.c.Len())
		if got := c.Run(l); !slices.Equal(got, want) {
			t.Fatalf("Run tells %v, not %v", got, want)
		}
		(&pair{t, c, g.m}).held("behind Run")
	}
}

// TestToldP17_1: dots are told in the order in which they were written, and only of what was written.
func TestToldP17_1(t *testing.T) {
	p := pairOf(t, 3)
	p.must(writes(2, add("a"), add("b")), writes(0), writes(0, add("c")))
	p.comes(writes(1, add("a"), add("9")), api.ErrArg)
	p.must(writes(2, remove("a")))
	p.must(hears(1, 2)...)
	p.must(crashes(2, 0))
	p.comes(writes(2, add("a")), api.ErrStopped)
	p.must(writes(1, add("d")))
	p.round()
	p.must(of(again, 2), writes(2, add("e")))
	want := []api.Dot{{Replica: 2, Count: 1}, {Replica: 2, Count: 2}, {Replica: 0, Count: 1}, {Replica: 2, Count: 3}, {Replica: 1, Count: 1}, {Replica: 2, Count: 4}}
	if got := p.c.Told(); !slices.Equal(got, want) {
		t.Errorf("Told is %v, not %v", got, want)
	}
}

// TestSharesNothingP17_1: what is handed in is changed behind a step, and what is handed out: nobody else's.
func TestSharesNothingP17_1(t *testing.T) {
	p := pairOf(t, 2)
	l := []api.Change{add("a"), setNum("a", "p", 1)}
	p.must(writes(0, l...))
	l[0], l[1] = remove("b"), api.Change{}
	p.held("what was handed in changes")
	one, other := p.c.Told(), p.c.Told()
	_ = append(one[:1], api.Dot{Replica: 7, Count: 7})
	clear(one)
	if !slices.Equal(other, []api.Dot{{Count: 1}, {Count: 2}}) {
		t.Errorf("two answers of Told share: %v", other)
	}
	p.held("what was handed out changes")
	one = p.c.Told()
	p.must(writes(0, add("c")))
	_ = append(one, api.Dot{Replica: 9, Count: 9})
	p.held("what was handed out grows")
}
