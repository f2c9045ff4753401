package replica_test

import (
	"bytes"
	"math"
	"slices"
	"testing"

	"hedgerow/api"
	"hedgerow/disk"
	"hedgerow/event"
	"hedgerow/graph"
	"hedgerow/journal"
	"hedgerow/message"
	"hedgerow/replica"
	"hedgerow/snap"
	"hedgerow/store"
)

// The chapter's numbers: kinds of records, and how many events a delta has at most.
const (
	recordEvent = 1
	recordSnap  = 2
	mostEvents  = 200
)

// model is a replica by the chapter's words: it has the events themselves, in the order in which they came, and works out from them what is known, seen and buffered.
type model struct {
	n, self  int
	running  bool
	spoilt   bool
	disk     *disk.Disk
	base     []api.Event // what the snapshot on the disk knows, and which of them it has
	needed   []api.Event
	snapped  bool
	behind   []api.Event // those of the disk's other records
	lives    []api.Event // what is known, while it runs
	buffered []api.Event
	acked    map[int]api.Vector
}

func modelOf(n, self int) *model {
	m := &model{n: n, self: self, disk: disk.New()}
	m.start()
	return m
}

// start lets it run, with what its disk tells.
func (m *model) start() {
	m.running = true
	m.lives = slices.Concat(m.base, m.behind)
	m.buffered = nil
	m.acked = map[int]api.Vector{}
	for i := range m.n {
		if i != m.self {
			m.acked[i] = api.Vector{}
		}
	}
	if m.n > 1 {
		m.buffered = slices.Concat(m.needed, m.behind)
	}
}

// vectorOf is how many events of each replica there are.
func vectorOf(l []api.Event) api.Vector {
	var v api.Vector
	for _, e := range l {
		v[e.Dot.Replica] = max(v[e.Dot.Replica], e.Dot.Count)
	}
	return v
}

// storeOf is what is left of events.
func storeOf(l []api.Event) *store.Store {
	s := store.New()
	for _, e := range l {
		s.Do(e)
	}
	return s
}

// linesOf is what is seen of events.
func linesOf(l []api.Event) []string { return graph.Of(storeOf(l)).Lines() }

// eventsOf are the events of changes that are written behind others.
func eventsOf(self int, known api.Vector, l []api.Change) []api.Event {
	var events []api.Event
	for _, c := range l {
		e := api.Event{Dot: api.Dot{Replica: self, Count: known[self] + 1}, Past: known, Op: c.Op, Elem: c.Elem, Value: c.Value}
		events = append(events, e)
		known[self]++
	}
	return events
}

// below asks whether no number is above the other one's.
func below(a, b api.Vector) bool {
	for i := range a {
		if a[i] > b[i] {
			return false
		}
	}
	return true
}

// knows asks whether a vector knows an event.
func knows(v api.Vector, e api.Event) bool { return v[e.Dot.Replica] >= e.Dot.Count }

// bytesOf is a message's bytes.
func bytesOf(t *testing.T, m api.Message) []byte {
	t.Helper()
	b, err := message.Bytes(m)
	if err != api.OK {
		t.Fatalf("a message of kind %d from %d to %d may not be", m.Kind, m.From, m.To)
	}
	return b
}

// digestOf and deltaOf are the bytes of messages.
func digestOf(t *testing.T, from, to int, known api.Vector) []byte {
	t.Helper()
	return bytesOf(t, api.Message{Kind: api.MsgDigest, From: from, To: to, Known: known})
}

func deltaOf(t *testing.T, from, to int, known api.Vector, l []api.Event) []byte {
	t.Helper()
	return bytesOf(t, api.Message{Kind: api.MsgDelta, From: from, To: to, Known: known, Events: l})
}

// recordOf are events' records, laid one behind the other; more than a disk takes, if they are.
func recordOf(l []api.Event) []byte {
	d := disk.New()
	for _, e := range l {
		b, _ := event.Bytes(e)
		if journal.Append(d, journal.Record{Kind: recordEvent, Data: b}) != api.OK {
			return make([]byte, api.MaxDisk+1)
		}
	}
	return d.Bytes()
}

// takeIn takes events in: all of their records, or none.
func (m *model) takeIn(l []api.Event) api.Errno {
	if m.disk.Write(recordOf(l)) != api.OK {
		return api.ErrFull
	}
	m.behind = append(m.behind, l...)
	m.lives = append(m.lives, l...)
	for _, e := range l {
		if !m.everywhere(e) {
			m.buffered = append(m.buffered, e)
		}
	}
	return api.OK
}

// everywhere asks whether each peer is known to know an event.
func (m *model) everywhere(e api.Event) bool {
	for _, v := range m.acked {
		if !knows(v, e) {
			return false
		}
	}
	return true
}

// ack lets the buffer hear what a peer knows.
func (m *model) ack(peer int, v api.Vector) {
	heard := m.acked[peer]
	for i := range heard {
		heard[i] = max(heard[i], v[i])
	}
	m.acked[peer] = heard
	m.buffered = slices.DeleteFunc(slices.Clone(m.buffered), m.everywhere)
}

func (m *model) write(l []api.Change) ([]api.Event, api.Errno) {
	if !m.running {
		return nil, api.ErrStopped
	}
	for _, c := range l {
		if event.Change(c) != api.OK {
			return nil, api.ErrArg
		}
	}
	known := vectorOf(m.lives)
	if known[m.self]+len(l) > api.MaxCount {
		return nil, api.ErrFull
	}
	events := eventsOf(m.self, known, l)
	if err := m.takeIn(events); err != api.OK {
		return nil, err
	}
	m.disk.Sync()
	return events, api.OK
}

func (m *model) sync() api.Errno {
	if !m.running {
		return api.ErrStopped
	}
	m.disk.Sync()
	return api.OK
}

func (m *model) digest(t *testing.T, to int) ([]byte, api.Errno) {
	if !m.running {
		return nil, api.ErrStopped
	}
	if _, peer := m.acked[to]; !peer {
		return nil, api.ErrNone
	}
	m.disk.Sync()
	return digestOf(t, m.self, to, vectorOf(m.lives)), api.OK
}

func (m *model) receive(t *testing.T, b []byte) ([]byte, int, api.Errno) {
	if !m.running {
		return nil, -1, api.ErrStopped
	}
	told, err := message.Parse(b)
	if err != api.OK {
		return nil, -1, err
	}
	if _, peer := m.acked[told.From]; !peer || told.To != m.self {
		return nil, -1, api.ErrNone
	}
	if told.Kind == api.MsgDelta {
		return nil, -1, m.hear(told)
	}
	m.ack(told.From, told.Known)
	m.disk.Sync()
	var lacks []api.Event
	for _, e := range m.buffered {
		if !knows(told.Known, e) && len(lacks) < mostEvents {
			lacks = append(lacks, e)
		}
	}
	return deltaOf(t, m.self, told.From, vectorOf(m.lives), lacks), told.From, api.OK
}

// hear takes a delta.
func (m *model) hear(told api.Message) api.Errno {
	known := vectorOf(m.lives)
	var taken []api.Event
	for _, e := range told.Events {
		switch {
		case knows(known, e):
		case known[e.Dot.Replica] != e.Dot.Count-1 || !below(e.Past, known):
			return api.ErrGap
		default:
			known[e.Dot.Replica]++
			taken = append(taken, e)
		}
	}
	if err := m.takeIn(taken); err != api.OK {
		return err
	}
	m.ack(told.From, told.Known)
	return api.OK
}

// snapshot is what Compact puts in place of all.
func (m *model) snapshot(t *testing.T) []byte {
	b, err := snap.Bytes(snap.Snap{Known: vectorOf(m.lives), Items: storeOf(m.lives).All(), Events: m.buffered})
	if err != api.OK {
		t.Fatalf("the snapshot may not be: %d", err)
	}
	return b
}

func (m *model) compact(t *testing.T) api.Errno {
	if !m.running {
		return api.ErrStopped
	}
	if journal.Rewrite(m.disk, []journal.Record{{Kind: recordSnap, Data: m.snapshot(t)}}) != api.OK {
		return api.ErrFull
	}
	m.snapped, m.base, m.needed, m.behind = true, slices.Clone(m.lives), slices.Clone(m.buffered), nil
	m.spoilt = false
	return api.OK
}

func (m *model) crash(keep, at int, by byte) api.Errno {
	if !m.running {
		return api.ErrStopped
	}
	m.disk.Crash(keep, at, by)
	m.running, m.lives, m.buffered, m.acked = false, nil, nil, nil
	return api.OK
}

func (m *model) spoil(at int, by byte) api.Errno {
	switch {
	case !m.running:
		return api.ErrStopped
	case at < 0 || at >= m.disk.Synced():
		return api.ErrRange
	case m.spoilt:
		return api.ErrNone
	}
	m.disk.Spoil(at, by)
	m.spoilt = true
	return api.OK
}

func (m *model) recover() api.Errno {
	if m.running {
		return api.ErrNone
	}
	l, err := journal.Recover(m.disk)
	if err != api.OK {
		return err
	}
	left := len(l)
	if m.snapped {
		left--
	}
	m.behind = slices.Clone(m.behind[:left])
	m.spoilt = false
	m.start()
	return api.OK
}

// held holds all that a replica tells of itself against a model.
func held(t *testing.T, name string, r *replica.Replica, m *model) {
	t.Helper()
	if r.Running() != m.running {
		t.Fatalf("%s: Running is %v", name, r.Running())
	}
	if got, want := r.Known(), vectorOf(m.lives); got != want {
		t.Fatalf("%s: Known is %v, not %v", name, got, want)
	}
	if got, want := r.View().Lines(), linesOf(m.lives); !slices.Equal(got, want) {
		t.Fatalf("%s: seen is %q, not %q", name, got, want)
	}
	if got := r.Buffered(); !slices.Equal(got, m.buffered) {
		t.Fatalf("%s: %d events are buffered, not %d", name, len(got), len(m.buffered))
	}
	for _, i := range append(numbers(), m.self, m.n, m.n-1) {
		want, peer := m.acked[i]
		if got, ok := r.Acked(i); got != want || ok != peer {
			t.Fatalf("%s: Acked of %d is %v, %v, not %v, %v", name, i, got, ok, want, peer)
		}
	}
	size, synced := r.Disk()
	if size != len(m.disk.Bytes()) || synced != m.disk.Synced() {
		t.Fatalf("%s: the disk has %d bytes, %d synced, not %d, %d", name, size, synced, len(m.disk.Bytes()), m.disk.Synced())
	}
}

// numbers are those at which something turns, and beyond.
func numbers() []int {
	return []int{math.MinInt, -1 << 32, -16, -1, 0, 1, 2, 3, 4, 5, 6, 7, 8, 9, 10, 11, 12, 13, 14, 15, 16, 17, 256, 1 << 32, math.MaxInt}
}

// pair is a replica, and its model: each call is made of both, and held against the other one.
type pair struct {
	t *testing.T
	r *replica.Replica
	m *model
}

func pairOf(t *testing.T, n, self int) *pair {
	t.Helper()
	p := &pair{t: t, r: replica.New(n, self), m: modelOf(n, self)}
	p.held("new", api.OK, api.OK)
	return p
}

// held holds an error, and the replica, against the model.
func (p *pair) held(name string, got, want api.Errno) {
	p.t.Helper()
	if got != want {
		p.t.Fatalf("%s is %d, not %d", name, got, want)
	}
	held(p.t, name, p.r, p.m)
}

func (p *pair) write(l ...api.Change) ([]api.Event, api.Errno) {
	p.t.Helper()
	before := slices.Clone(l)
	got, err := p.r.Write(l)
	want, fault := p.m.write(l)
	if !slices.Equal(got, want) || !slices.Equal(l, before) {
		p.t.Fatalf("Write tells %+v, not %+v", got, want)
	}
	p.held("Write", err, fault)
	return got, err
}

func (p *pair) sync() api.Errno {
	p.t.Helper()
	err := p.r.Sync()
	p.held("Sync", err, p.m.sync())
	return err
}

func (p *pair) digest(to int) ([]byte, api.Errno) {
	p.t.Helper()
	got, err := p.r.Digest(to)
	want, fault := p.m.digest(p.t, to)
	if !bytes.Equal(got, want) {
		p.t.Fatalf("Digest to %d is %v, not %v", to, got, want)
	}
	p.held("Digest", err, fault)
	return got, err
}

func (p *pair) receive(b []byte) ([]byte, int, api.Errno) {
	p.t.Helper()
	before := bytes.Clone(b)
	got, to, err := p.r.Receive(b)
	want, whom, fault := p.m.receive(p.t, b)
	if !bytes.Equal(got, want) || to != whom {
		p.t.Fatalf("Receive tells %d bytes to %d, error %d, not %d to %d, error %d", len(got), to, err, len(want), whom, fault)
	}
	if !bytes.Equal(b, before) {
		p.t.Fatal("Receive changes its bytes")
	}
	p.held("Receive", err, fault)
	return got, to, err
}

func (p *pair) compact() api.Errno {
	p.t.Helper()
	err := p.r.Compact()
	p.held("Compact", err, p.m.compact(p.t))
	return err
}

func (p *pair) crash(keep, at int, by byte) api.Errno {
	p.t.Helper()
	err := p.r.Crash(keep, at, by)
	p.held("Crash", err, p.m.crash(keep, at, by))
	return err
}

func (p *pair) spoil(at int, by byte) api.Errno {
	p.t.Helper()
	err := p.r.Spoil(at, by)
	p.held("Spoil", err, p.m.spoil(at, by))
	return err
}

func (p *pair) recover() api.Errno {
	p.t.Helper()
	err := p.r.Recover()
	p.held("Recover", err, p.m.recover())
	return err
}

// must fails a test, if a step that it needs comes to another error.
func (p *pair) must(got, want api.Errno) {
	p.t.Helper()
	if got != want {
		p.t.Fatalf("a step is %d, not %d", got, want)
	}
}
