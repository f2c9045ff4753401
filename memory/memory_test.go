package memory_test

import (
	"bytes"
	"slices"
	"testing"

	"hedgerow/api"
	"hedgerow/event"
	"hedgerow/graph"
	"hedgerow/journal"
	"hedgerow/memory"
	"hedgerow/snap"
	"hedgerow/store"
)

// The chapter's kinds of records.
const (
	recordEvent = 1
	recordSnap  = 2
)

// add is the event of a node that comes, the first one of a replica that a vector doesn't know.
func add(replica int, past api.Vector, key string) api.Event {
	return api.Event{Dot: api.Dot{Replica: replica, Count: past[replica] + 1}, Past: past, Op: api.OpAdd, Elem: graph.Node(key)}
}

// record is an event's record, by the chapter's words.
func record(t *testing.T, e api.Event) journal.Record {
	t.Helper()
	b, err := event.Bytes(e)
	if err != api.OK {
		t.Fatalf("%+v may not be", e)
	}
	return journal.Record{Kind: recordEvent, Data: b}
}

// snapshot is a snapshot's record.
func snapshot(t *testing.T, s snap.Snap) journal.Record {
	t.Helper()
	b, err := snap.Bytes(s)
	if err != api.OK {
		t.Fatalf("%+v may not be", s)
	}
	return journal.Record{Kind: recordSnap, Data: b}
}

// some is a snapshot that knows three events, of which two are left, and two are needed, one that was undone among them.
func some() snap.Snap {
	needed := add(1, api.Vector{2}, "b")
	undone := add(0, api.Vector{}, "e")
	return snap.Snap{
		Known: api.Vector{2, 1},
		Items: []store.Item{
			{Elem: graph.Node("a"), Entries: []store.Entry{{Dot: api.Dot{Count: 2}}}},
			{Elem: graph.Node("b"), Entries: []store.Entry{{Dot: api.Dot{Replica: 1, Count: 1}}}},
		},
		Events: []api.Event{undone, needed},
	}
}

// row is a snapshot's record, and those of two events behind it.
func row(t *testing.T) []journal.Record {
	t.Helper()
	return []journal.Record{snapshot(t, some()), record(t, add(0, api.Vector{2, 1}, "c")), record(t, add(1, api.Vector{3, 1}, "d"))}
}

// has holds a memory against what is known, the nodes that are there, and the keys of those whose events wait.
func has(t *testing.T, name string, m memory.Memory, known api.Vector, nodes, wait []string) {
	t.Helper()
	var waiting []string
	for _, e := range m.Buffer.All() {
		waiting = append(waiting, e.Elem.A)
	}
	if got := graph.Of(m.Store).Nodes(); m.Known != known || !slices.Equal(got, nodes) || !slices.Equal(waiting, wait) {
		t.Errorf("%s: known is %v, there are %q, of %q events wait", name, m.Known, got, waiting)
	}
}

func TestRecallP15_1(t *testing.T) {
	l := row(t)
	for _, c := range []struct {
		name        string
		l           []journal.Record
		known       api.Vector
		nodes, wait []string
	}{
		{"nothing", nil, api.Vector{}, nil, nil},
		{"an event", []journal.Record{record(t, add(0, api.Vector{}, "e"))}, api.Vector{1}, []string{"e"}, []string{"e"}},
		{"events", []journal.Record{record(t, add(5, api.Vector{}, "e")), record(t, add(0, api.Vector{5: 1}, "f")), record(t, add(5, api.Vector{5: 1}, "e"))}, api.Vector{1, 5: 2}, []string{"e", "f"}, []string{"e", "f", "e"}},
		{"a snapshot of nothing", []journal.Record{snapshot(t, snap.Snap{})}, api.Vector{}, nil, nil},
		{"a snapshot", l[:1], api.Vector{2, 1}, []string{"a", "b"}, []string{"e", "b"}},
		{"a snapshot, and an event", l[:2], api.Vector{3, 1}, []string{"a", "b", "c"}, []string{"e", "b", "c"}},
		{"all", l, api.Vector{3, 2}, []string{"a", "b", "c", "d"}, []string{"e", "b", "c", "d"}},
	} {
		for n := 1; n <= api.MaxReplicas; n++ {
			for self := range n {
				m, err := memory.Recall(n, self, c.l)
				if err != api.OK {
					t.Fatalf("Recall of %s is %d", c.name, err)
				}
				wait := c.wait
				if n == 1 {
					wait = nil
				}
				has(t, c.name, m, c.known, c.nodes, wait)
				for peer := -1; peer <= n; peer++ {
					acked, ok := m.Buffer.Acked(peer)
					if acked != (api.Vector{}) || ok != (peer >= 0 && peer < n && peer != self) {
						t.Fatalf("Acked of %d is %v, %v", peer, acked, ok)
					}
				}
			}
		}
	}
}

// refused holds records against their being no replica's.
func refused(t *testing.T, name string, l ...journal.Record) {
	t.Helper()
	if m, err := memory.Recall(2, 0, l); err != api.ErrForm || m != (memory.Memory{}) {
		t.Errorf("Recall of %s is %d, and knows %v", name, err, m.Known)
	}
}

// TestRecallOfNoKindP15_1 asks for each kind of records, with the bytes of an event, of a snapshot, and of none.
func TestRecallOfNoKindP15_1(t *testing.T) {
	e, s := record(t, add(0, api.Vector{}, "a")), snapshot(t, some())
	for kind := range 256 {
		if kind != recordEvent {
			refused(t, "an event's bytes of another kind", journal.Record{Kind: byte(kind), Data: e.Data})
		}
		if kind != recordSnap {
			refused(t, "a snapshot's bytes of another kind", journal.Record{Kind: byte(kind), Data: s.Data})
			refused(t, "one of another kind behind", s, journal.Record{Kind: byte(kind), Data: s.Data})
		}
		refused(t, "no bytes", journal.Record{Kind: byte(kind)})
		refused(t, "no bytes behind", e, journal.Record{Kind: byte(kind)})
	}
}

// TestRecallOfNoBytesP15_1 cuts the bytes of each record, and puts some behind.
func TestRecallOfNoBytesP15_1(t *testing.T) {
	for at, r := range row(t) {
		with := func(b []byte) []journal.Record {
			l := row(t)
			l[at].Data = b
			return l
		}
		for cut := range r.Data {
			refused(t, "a record that is cut", with(r.Data[:cut])...)
		}
		for _, more := range [][]byte{{0}, {1}, {255}, r.Data} {
			refused(t, "a record with bytes behind", with(slices.Concat(r.Data, more))...)
		}
	}
	wrong := add(0, api.Vector{}, "9")
	refused(t, "an event that may not be", journal.Record{Kind: recordEvent, Data: event.Put(nil, wrong)})
	unknown := snapshot(t, some()).Data
	unknown[0] = 1
	refused(t, "a snapshot that may not be", journal.Record{Kind: recordSnap, Data: unknown})
}

// TestRecallOfNoRowP15_1 puts records where they may not stand.
func TestRecallOfNoRowP15_1(t *testing.T) {
	l := row(t)
	s, c, d := l[0], l[1], l[2]
	refused(t, "a snapshot twice", s, s)
	refused(t, "a snapshot behind events", record(t, add(0, api.Vector{}, "a")), s)
	refused(t, "a snapshot of nothing behind", s, snapshot(t, snap.Snap{}))
	refused(t, "a last snapshot", s, c, d, s)
	refused(t, "an event that is known", s, record(t, some().Events[0]))
	refused(t, "an event twice", s, c, c)
	refused(t, "an event with a gap", s, record(t, add(0, api.Vector{3, 1}, "e")))
	refused(t, "an event that has seen another one", s, d, c)
	refused(t, "an event without its snapshot", c, d)
	refused(t, "one of another replica that isn't the next one", s, record(t, add(9, api.Vector{9: 1}, "e")))
}

func TestRecallOfNobodyP15_1(t *testing.T) {
	for _, c := range [][2]int{{0, 0}, {-1, 0}, {17, 0}, {2, 2}, {2, -1}, {16, 16}} {
		for _, l := range [][]journal.Record{nil, row(t), {{Kind: 9}}} {
			if m, err := memory.Recall(c[0], c[1], l); err != api.ErrArg || m != (memory.Memory{}) {
				t.Errorf("Recall of %d, %d is %d", c[0], c[1], err)
			}
		}
	}
}

func TestEventP15_1(t *testing.T) {
	e := add(3, api.Vector{0: 300, 3: 9}, "a")
	if got, want := memory.Event(e), record(t, e); got.Kind != want.Kind || !bytes.Equal(got.Data, want.Data) {
		t.Errorf("an event's record is %+v, not %+v", got, want)
	}
}

func TestTakeP15_1(t *testing.T) {
	m, _ := memory.Recall(3, 0, row(t))
	m.Take(add(2, api.Vector{3, 1}, "e"))
	m.Take(api.Event{Dot: api.Dot{Count: 4}, Past: api.Vector{3, 2, 1}, Op: api.OpRemove, Elem: graph.Node("b")})
	has(t, "behind two more", m, api.Vector{4, 2, 1}, []string{"a", "c", "d", "e"}, []string{"e", "b", "c", "d", "e", "b"})
	for peer := 1; peer < 3; peer++ {
		m.Buffer.Ack(peer, api.Vector{5, 2})
	}
	m.Take(add(0, api.Vector{4, 2, 1}, "f"))
	has(t, "behind one that all know", m, api.Vector{5, 2, 1}, []string{"a", "c", "d", "e", "f"}, []string{"e"})
}

func TestSnapshotP15_1(t *testing.T) {
	l := row(t)
	m, _ := memory.Recall(2, 0, l)
	m.Buffer.Ack(1, api.Vector{2, 2})
	got, err := m.Snapshot()
	want := snapshot(t, snap.Snap{Known: m.Known, Items: m.Store.All(), Events: []api.Event{add(0, api.Vector{2, 1}, "c")}})
	if err != api.OK || got.Kind != want.Kind || !bytes.Equal(got.Data, want.Data) {
		t.Errorf("the snapshot is %+v, error %d, not %+v", got, err, want)
	}
	again, err := memory.Recall(2, 0, []journal.Record{got})
	if err != api.OK {
		t.Errorf("Recall of a snapshot is %d", err)
	}
	has(t, "behind a snapshot", again, api.Vector{3, 2}, []string{"a", "b", "c", "d"}, []string{"c"})
	// What may not be has none.
	m.Known = api.Vector{}
	if got, err := m.Snapshot(); err != api.ErrArg || got.Kind != 0 || len(got.Data) > 0 {
		t.Errorf("the snapshot of what isn't known is %+v, error %d", got, err)
	}
	var nothing memory.Memory
	if got, err := nothing.Snapshot(); err != api.OK || !bytes.Equal(got.Data, make([]byte, 18)) {
		t.Errorf("the snapshot of nothing is %+v, error %d", got, err)
	}
}
