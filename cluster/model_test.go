package cluster_test

import (
	"bytes"
	"math"
	"slices"
	"testing"

	"hedgerow/api"
	"hedgerow/cluster"
	"hedgerow/replica"
)

// The chapter's numbers: the kinds of steps, and how many parcels may be under way.
const (
	write = iota + 1
	tick
	deliver
	drop
	double
	turn
	crash
	again // a StepRecover
	compact
	spoil
	syncs // a StepSync
)

const mostFlight = 256

// parcel is one under way.
type parcel struct {
	to     int
	bytes  []byte
	turned bool
}

// model is a cluster by the chapter's words: replicas of layer 15, and a row of parcels.
type model struct {
	replicas []*replica.Replica
	under    []parcel
	told     []api.Dot
}

func modelOf(n int) *model {
	m := &model{}
	for i := range n {
		m.replicas = append(m.replicas, replica.New(n, i))
	}
	return m
}

// has asks whether there is a parcel of a number.
func (m *model) has(i int) bool { return i >= 0 && i < len(m.under) }

// take takes a parcel out.
func (m *model) take(i int) parcel {
	p := m.under[i]
	m.under = slices.Delete(slices.Clone(m.under), i, i+1)
	return p
}

// do is what a step comes to.
func (m *model) do(s api.Step) api.Errno {
	switch s.Kind {
	case deliver, drop, double, turn:
		if !m.has(s.I) {
			return api.ErrNone
		}
		return m.ofParcel(s)
	case write, tick, crash, again, compact, spoil, syncs:
		if s.R < 0 || s.R >= len(m.replicas) {
			return api.ErrNone
		}
		return m.ofReplica(m.replicas[s.R], s)
	}
	return api.ErrArg
}

// ofReplica is what a step of a replica comes to.
func (m *model) ofReplica(r *replica.Replica, s api.Step) api.Errno {
	switch s.Kind {
	case write:
		l, err := r.Write(s.Changes)
		for _, e := range l {
			m.told = append(m.told, e.Dot)
		}
		return err
	case tick:
		return m.tick(r, s.S)
	case crash:
		return r.Crash(s.Keep, s.At, s.By)
	case again:
		return r.Recover()
	case compact:
		return r.Compact()
	case spoil:
		return r.Spoil(s.At, s.By)
	}
	return r.Sync()
}

// tick sends a digest; where it doesn't fit, nothing changes.
func (m *model) tick(r *replica.Replica, to int) api.Errno {
	if len(m.under) == mostFlight {
		switch _, peer := r.Acked(to); {
		case !r.Running():
			return api.ErrStopped
		case !peer:
			return api.ErrNone
		}
		return api.ErrFull
	}
	b, err := r.Digest(to)
	if err == api.OK {
		m.under = append(m.under, parcel{to: to, bytes: b})
	}
	return err
}

// ofParcel is what a step of a parcel that is there comes to.
func (m *model) ofParcel(s api.Step) api.Errno {
	switch s.Kind {
	case deliver:
		p := m.take(s.I)
		back, to, err := m.replicas[p.to].Receive(p.bytes)
		if len(back) > 0 {
			m.under = append(m.under, parcel{to: to, bytes: back})
		}
		return err
	case drop:
		m.take(s.I)
		return api.OK
	case double:
		if len(m.under) == mostFlight {
			return api.ErrFull
		}
		p := m.under[s.I]
		m.under = append(m.under, parcel{p.to, bytes.Clone(p.bytes), p.turned})
		return api.OK
	}
	p := &m.under[s.I]
	if s.At < 0 || s.At >= len(p.bytes) {
		return api.ErrRange
	}
	if p.turned {
		return api.ErrArg
	}
	p.bytes[s.At] ^= s.By
	p.turned = true
	return api.OK
}

// round is one, pair by pair.
func (m *model) round() {
	for i, r := range m.replicas {
		for j, s := range m.replicas {
			if i == j {
				continue
			}
			b, err := r.Digest(j)
			if err != api.OK {
				continue
			}
			back, to, err := s.Receive(b)
			if err == api.OK && to == i {
				r.Receive(back)
			}
		}
	}
}

// alike holds all that one replica tells of itself against another one.
func alike(t *testing.T, name string, n int, got, want *replica.Replica) {
	t.Helper()
	if got.Running() != want.Running() || got.Known() != want.Known() {
		t.Fatalf("%s: Running is %v, not %v, Known %v, not %v", name, got.Running(), want.Running(), got.Known(), want.Known())
	}
	if a, b := got.Buffered(), want.Buffered(); !slices.Equal(a, b) {
		t.Fatalf("%s: %d events are buffered, not %d", name, len(a), len(b))
	}
	for i := range n {
		a, peer := got.Acked(i)
		if b, ok := want.Acked(i); a != b || peer != ok {
			t.Fatalf("%s: Acked of %d is %v, %v, not %v, %v", name, i, a, peer, b, ok)
		}
	}
	size, synced := got.Disk()
	if a, b := want.Disk(); size != a || synced != b {
		t.Fatalf("%s: the disk has %d bytes, %d synced, not %d, %d", name, size, synced, a, b)
	}
	if a, b := got.View().Lines(), want.View().Lines(); !slices.Equal(a, b) {
		t.Fatalf("%s: seen is %q, not %q", name, a, b)
	}
}

// pair is a cluster, and its model: each call is made of both, and held against the other one.
type pair struct {
	t *testing.T
	c *cluster.Cluster
	m *model
}

func pairOf(t *testing.T, n int) *pair {
	t.Helper()
	p := &pair{t: t, c: cluster.New(n), m: modelOf(n)}
	p.held("new")
	return p
}

// held holds all that a cluster tells against its model.
func (p *pair) held(name string) {
	p.t.Helper()
	n := len(p.m.replicas)
	if p.c.Len() != n || p.c.Flight() != len(p.m.under) {
		p.t.Fatalf("%s: Len is %d, not %d, Flight %d, not %d", name, p.c.Len(), n, p.c.Flight(), len(p.m.under))
	}
	if got := p.c.Told(); !slices.Equal(got, p.m.told) {
		p.t.Fatalf("%s: Told is %v, not %v", name, got, p.m.told)
	}
	for i, want := range p.m.replicas {
		got := p.c.Replica(i)
		if got == nil {
			p.t.Fatalf("%s: there is no replica %d", name, i)
		}
		alike(p.t, name, n, got, want)
	}
}

// do does a step, and holds what it comes to.
func (p *pair) do(s api.Step) api.Errno {
	p.t.Helper()
	before := slices.Clone(s.Changes)
	got, want := p.c.Do(s), p.m.do(s)
	if got != want {
		p.t.Fatalf("%+v comes to %d, not %d", s, got, want)
	}
	if !slices.Equal(s.Changes, before) {
		p.t.Fatalf("%+v: its changes are changed", s)
	}
	return got
}

// must does steps, each of which has to come to OK.
func (p *pair) must(l ...api.Step) {
	p.t.Helper()
	for _, s := range l {
		if err := p.do(s); err != api.OK {
			p.t.Fatalf("%+v comes to %d", s, err)
		}
	}
	p.held("steps")
}

// comes does a step that has to come to an error.
func (p *pair) comes(s api.Step, want api.Errno) {
	p.t.Helper()
	if got := p.do(s); got != want {
		p.t.Fatalf("%+v comes to %d, not %d", s, got, want)
	}
	p.held("a step")
}

func (p *pair) round() {
	p.t.Helper()
	p.c.Round()
	p.m.round()
	p.held("a round")
}

// sees fails a test, if a replica sees other lines.
func (p *pair) sees(i int, want ...string) {
	p.t.Helper()
	if got := p.c.Replica(i).View().Lines(); !slices.Equal(got, want) {
		p.t.Fatalf("replica %d sees %q, not %q", i, got, want)
	}
}

// writes, ticks and others are steps.
func writes(r int, l ...api.Change) api.Step { return api.Step{Kind: write, R: r, Changes: l} }

func ticks(r, s int) api.Step { return api.Step{Kind: tick, R: r, S: s} }

func delivers(i int) api.Step { return api.Step{Kind: deliver, I: i} }

func crashes(r, keep int) api.Step { return api.Step{Kind: crash, R: r, Keep: keep, At: -1} }

func of(kind, r int) api.Step { return api.Step{Kind: kind, R: r} }

func at(kind, i int) api.Step { return api.Step{Kind: kind, I: i} }

// hears are the steps by which r hears what s knows, if nothing else is under way.
func hears(r, s int) []api.Step { return []api.Step{ticks(r, s), delivers(0), delivers(0)} }

// add, remove and others are changes.
func add(key string) api.Change {
	return api.Change{Op: api.OpAdd, Elem: api.Elem{Kind: api.ElemNode, A: key}}
}

func remove(key string) api.Change {
	return api.Change{Op: api.OpRemove, Elem: api.Elem{Kind: api.ElemNode, A: key}}
}

func link(from, kind, to string) api.Change {
	return api.Change{Op: api.OpAdd, Elem: api.Elem{Kind: api.ElemEdge, A: from, B: to, C: kind}}
}

func setNum(key, name string, n int) api.Change {
	return api.Change{Op: api.OpSet, Elem: api.Elem{Kind: api.ElemProp, A: key, D: name}, Value: api.Value{Kind: api.Int, Num: n}}
}

// changes are some that may be, of all kinds.
func changes() []api.Change {
	trait := api.Elem{Kind: api.ElemTrait, A: "a", B: "b", C: "K", D: "t"}
	mark := api.Elem{Kind: api.ElemLabel, A: "a", D: "P"}
	return []api.Change{
		add("a"), add("b"), remove("a"), remove("b"), link("a", "K", "b"), link("b", "K", "a"),
		{Op: api.OpRemove, Elem: link("a", "K", "b").Elem},
		{Op: api.OpAdd, Elem: mark}, {Op: api.OpRemove, Elem: mark},
		setNum("a", "p", 1), setNum("a", "p", -300), setNum("b", "p", 2), {Op: api.OpClear, Elem: setNum("a", "p", 0).Elem},
		{Op: api.OpSet, Elem: trait, Value: api.Value{Kind: api.Text, Text: "it's"}}, {Op: api.OpClear, Elem: trait},
	}
}

// many are so many changes that may be.
func many(n int) []api.Change {
	var l []api.Change
	for i := range n {
		l = append(l, setNum("a", "p", i))
	}
	return l
}

// numbers are those at which something turns, and beyond.
func numbers() []int {
	return []int{math.MinInt, -1 << 32, -999999999, -16, -1, 0, 1, 2, 3, 10, 11, 12, 13, 15, 16, 17, 255, 256, 257, 1 << 32, math.MaxInt}
}
