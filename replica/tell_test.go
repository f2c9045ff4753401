package replica_test

import (
	"bytes"
	"slices"
	"testing"

	"hedgerow/api"
	"hedgerow/message"
)

// unsynced is a replica of n of which the last event, the first one of peer, was received, and isn't synced.
func unsynced(t *testing.T, n, self, peer int) *pair {
	t.Helper()
	p := pairOf(t, n, self)
	p.write(add("a"), setNum("a", "p", 1))
	_, _, err := p.receive(deltaOf(t, peer, self, vectorOf(others(peer, add("z"))), others(peer, add("z"))))
	p.must(err, api.OK)
	if size, synced := p.r.Disk(); size == synced {
		t.Fatal("what was received is synced")
	}
	return p
}

// read is the message whose bytes these are.
func read(t *testing.T, b []byte) api.Message {
	t.Helper()
	m, err := message.Parse(b)
	if err != api.OK {
		t.Fatalf("%d bytes are no message: %d", len(b), err)
	}
	return m
}

func TestDigestP15_1(t *testing.T) {
	for n := 1; n <= api.MaxReplicas; n++ {
		for self := range n {
			for _, to := range append(numbers(), n, n+1, -n) {
				p := pairOf(t, n, self)
				peer := to >= 0 && to < n && to != self
				if n > 1 {
					p = unsynced(t, n, self, (self+1)%n)
				}
				b, err := p.digest(to)
				if (err == api.OK) != peer || err != api.OK && err != api.ErrNone {
					t.Fatalf("of %d, Digest of %d to %d is %d", n, self, to, err)
				}
				if size, synced := p.r.Disk(); n > 1 && (size == synced) != peer {
					t.Fatalf("behind a digest to %d of %d bytes %d are synced", to, size, synced)
				}
				if !peer {
					continue
				}
				want := api.Message{Kind: api.MsgDigest, From: self, To: to, Known: p.r.Known()}
				if got := read(t, b); !message.Same(got, want) {
					t.Fatalf("Digest tells %+v, not %+v", got, want)
				}
			}
		}
	}
}

// TestReceiveNoMessageP15_1: what layer 14 tells of bytes that are no message is told, and nothing changes.
func TestReceiveNoMessageP15_1(t *testing.T) {
	p := unsynced(t, 2, 0, 1)
	good := digestOf(t, 1, 0, api.Vector{5})
	payload := good[4 : len(good)-4]
	for _, c := range []struct {
		name string
		b    []byte
		want api.Errno
	}{
		{"nil", nil, api.ErrForm},
		{"nothing", []byte{}, api.ErrForm},
		{"three bytes", good[:3], api.ErrForm},
		{"four of 0", make([]byte, 4), api.ErrCheck},
		{"one that is cut", good[:len(good)-1], api.ErrForm},
		{"one and a byte behind", append(bytes.Clone(good), 0), api.ErrForm},
		{"one twice", slices.Concat(good, good), api.ErrForm},
		{"one that is too long", framed(make([]byte, api.MaxDisk+1)...), api.ErrLong},
		{"the frame of nothing", framed(), api.ErrForm},
		{"a payload without its frame", payload, api.ErrCheck},
		{"a payload that is cut", framed(payload[:len(payload)-1]...), api.ErrForm},
		{"a message of no kind", framed(append([]byte{3}, payload[1:]...)...), api.ErrForm},
		{"one from itself", framed(append([]byte{1, 0, 0}, payload[3:]...)...), api.ErrForm},
		{"one from replica 16", framed(append([]byte{1, 16, 0}, payload[3:]...)...), api.ErrForm},
	} {
		back, to, err := p.receive(c.b)
		if err != c.want || to != -1 || len(back) > 0 {
			t.Errorf("Receive of %s tells %v to %d, error %d", c.name, back, to, err)
		}
	}
	if size, synced := p.r.Disk(); size == synced {
		t.Error("a message that is refused syncs")
	}
}

// TestReceiveTurnedP15_1: a message of which any byte is turned is refused.
func TestReceiveTurnedP15_1(t *testing.T) {
	p := unsynced(t, 2, 0, 1)
	news := api.Event{Dot: api.Dot{Replica: 1, Count: 2}, Past: api.Vector{1: 1}, Op: api.OpAdd, Elem: nodeElem("y")}
	for _, whole := range [][]byte{digestOf(t, 1, 0, api.Vector{2, 1}), deltaOf(t, 1, 0, api.Vector{2, 2}, []api.Event{news})} {
		for at := range whole {
			for _, by := range []byte{1, 2, 16, 128, 255} {
				b := bytes.Clone(whole)
				b[at] ^= by
				if back, to, err := p.receive(b); err == api.OK || to != -1 || len(back) > 0 {
					t.Fatalf("Receive with byte %d turned by %d tells %v to %d, error %d", at, by, back, to, err)
				}
			}
		}
		if _, _, err := p.receive(whole); err != api.OK {
			t.Fatalf("Receive is %d", err)
		}
	}
}

// TestReceiveOfNoneP15_1 lets each replica of each number of them receive from all to all.
func TestReceiveOfNoneP15_1(t *testing.T) {
	for n := 1; n <= api.MaxReplicas; n++ {
		for self := range n {
			for from := range api.MaxReplicas {
				for to := range api.MaxReplicas {
					if from == to || (from+to+n+self)%3 > 0 && to != self && n > 3 {
						continue
					}
					p := pairOf(t, n, self)
					want := api.ErrNone
					if to == self && from < n {
						want = api.OK
					}
					told := others(from, add("z"))
					back, whom, err := p.receive(deltaOf(t, from, to, vectorOf(told), told))
					if err != want || whom != -1 || len(back) > 0 {
						t.Fatalf("of %d, a delta from %d to %d tells %d: %d bytes to %d, error %d", n, from, to, self, len(back), whom, err)
					}
					back, whom, err = p.receive(digestOf(t, from, to, vectorOf(told)))
					if err != want || (whom == from) != (want == api.OK) || (len(back) > 0) != (want == api.OK) {
						t.Fatalf("of %d, a digest from %d to %d tells %d: %d bytes to %d, error %d", n, from, to, self, len(back), whom, err)
					}
				}
			}
		}
	}
}

// TestReceiveOfNoneSyncsNothingP15_1: what isn't to it, or not from a peer, changes nothing, nor is anything synced.
func TestReceiveOfNoneSyncsNothingP15_1(t *testing.T) {
	p := unsynced(t, 3, 0, 1)
	for _, b := range [][]byte{
		digestOf(t, 1, 2, full(9)), digestOf(t, 3, 0, full(9)), digestOf(t, 0, 1, full(9)), digestOf(t, 15, 0, full(9)),
		deltaOf(t, 2, 1, api.Vector{2: 1}, others(2, add("y"))), deltaOf(t, 3, 0, api.Vector{3: 1}, others(3, add("y"))), deltaOf(t, 0, 2, api.Vector{2: 1}, others(2, add("y"))),
	} {
		if back, to, err := p.receive(b); err != api.ErrNone || to != -1 || len(back) > 0 {
			t.Errorf("Receive tells %v to %d, error %d", back, to, err)
		}
	}
	if size, synced := p.r.Disk(); size == synced {
		t.Error("a message that isn't to it syncs")
	}
}

func TestReceiveDigestP15_1(t *testing.T) {
	p := unsynced(t, 3, 0, 1)
	all := p.r.Buffered()
	if len(all) != 3 {
		t.Fatalf("buffered is %+v", all)
	}
	back, to, err := p.receive(digestOf(t, 2, 0, api.Vector{0: 1, 2: 7}))
	want := api.Message{Kind: api.MsgDelta, From: 0, To: 2, Known: api.Vector{2, 1}, Events: all[1:]}
	if err != api.OK || to != 2 || !message.Same(read(t, back), want) {
		t.Errorf("Receive tells %+v to %d, error %d", read(t, back), to, err)
	}
	if known, ok := p.r.Acked(2); known != (api.Vector{0: 1, 2: 7}) || !ok {
		t.Errorf("Acked is %v, %v", known, ok)
	}
	if size, synced := p.r.Disk(); size != synced {
		t.Errorf("behind a digest of %d bytes %d are synced", size, synced)
	}
	// The other one is known to know its own event alone, and so the first two are still needed.
	if got := p.r.Buffered(); !slices.Equal(got, all) {
		t.Errorf("buffered is %+v", got)
	}
	// An older digest tells less: what it doesn't know is told, and what the peer is known to know stays.
	back, _, _ = p.receive(digestOf(t, 2, 0, api.Vector{1: 1}))
	if got := read(t, back).Events; !slices.Equal(got, all[:2]) {
		t.Errorf("behind an older digest is told %+v", got)
	}
	if known, _ := p.r.Acked(2); known != (api.Vector{1, 1, 7}) {
		t.Errorf("Acked is %v", known)
	}
	// What both know goes, and isn't told any more, whoever asks.
	back, to, _ = p.receive(digestOf(t, 1, 0, api.Vector{1, 1}))
	if got := read(t, back).Events; !slices.Equal(got, all[1:2]) || to != 1 {
		t.Errorf("the other one is told %+v", got)
	}
	if got := p.r.Buffered(); !slices.Equal(got, all[1:2]) {
		t.Errorf("buffered is %+v", got)
	}
	back, _, _ = p.receive(digestOf(t, 2, 0, api.Vector{}))
	if got := read(t, back).Events; !slices.Equal(got, all[1:2]) {
		t.Errorf("one that knows nothing is told %+v", got)
	}
}

// TestReceiveDigestOfManyP15_1: a delta has the first events that a digest doesn't know, as many as it may have.
func TestReceiveDigestOfManyP15_1(t *testing.T) {
	p := pairOf(t, 3, 1)
	var row []api.Change
	for i := range 2*mostEvents + 50 {
		row = append(row, setNum("a", "p", i))
	}
	all, err := p.write(row...)
	p.must(err, api.OK)
	for _, c := range []struct{ known, first, last int }{
		{0, 0, mostEvents}, {1, 1, mostEvents + 1}, {100, 100, 100 + mostEvents}, {250, 250, 450}, {251, 251, 450}, {300, 300, 450}, {449, 449, 450}, {450, 450, 450}, {api.MaxCount, 450, 450}, {0, 0, mostEvents},
	} {
		back, to, err := p.receive(digestOf(t, 2, 1, api.Vector{1: c.known}))
		m := read(t, back)
		if err != api.OK || to != 2 || m.Known != (api.Vector{1: 450}) || !slices.Equal(m.Events, all[c.first:c.last]) {
			t.Errorf("one that knows %d is told %d events, error %d", c.known, len(m.Events), err)
		}
	}
}

// TestReceiveDigestOrderP15_1: events are told in the order in which they came.
func TestReceiveDigestOrderP15_1(t *testing.T) {
	p := pairOf(t, 4, 0)
	third := others(3, add("x"), add("y"))
	p.receive(deltaOf(t, 3, 0, api.Vector{3: 1}, third[:1]))
	mine, _ := p.write(add("a"))
	second := others(2, add("z"))
	p.receive(deltaOf(t, 2, 0, api.Vector{2: 1}, second))
	p.receive(deltaOf(t, 3, 0, api.Vector{3: 2}, third))
	last, _ := p.write(add("b"))
	back, _, _ := p.receive(digestOf(t, 1, 0, api.Vector{}))
	if got, want := read(t, back).Events, slices.Concat(third[:1], mine, second, third[1:], last); !slices.Equal(got, want) {
		t.Errorf("told is %+v, not %+v", got, want)
	}
}

// TestReceiveDigestOfMoreP15_1: a peer that knows more than this one doesn't need it to be buffered when it comes.
func TestReceiveDigestOfMoreP15_1(t *testing.T) {
	p := pairOf(t, 2, 0)
	back, to, err := p.receive(digestOf(t, 1, 0, api.Vector{0: 2, 1: 2, 9: api.MaxCount}))
	if m := read(t, back); err != api.OK || to != 1 || len(m.Events) > 0 || m.Known != (api.Vector{}) {
		t.Errorf("Receive tells %+v to %d, error %d", m, to, err)
	}
	p.write(add("a"), add("b"), add("c"))
	p.receive(deltaOf(t, 1, 0, api.Vector{1: 3}, others(1, add("x"), add("y"), add("z"))))
	if got := p.r.Buffered(); len(got) != 1 || got[0].Dot != (api.Dot{Count: 3}) {
		t.Errorf("buffered is %+v", got)
	}
}

// TestReceiveDeltaP15_1: what a delta brings is known, seen and buffered, not synced, and the peer is known to know what it tells.
func TestReceiveDeltaP15_1(t *testing.T) {
	p := pairOf(t, 3, 0)
	mine, _ := p.write(add("a"))
	size, _ := p.r.Disk()
	l := eventsOf(1, api.Vector{0: 1}, []api.Change{remove("a"), add("b")})
	back, to, err := p.receive(deltaOf(t, 1, 0, api.Vector{0: 1, 1: 2, 2: 5}, l))
	if err != api.OK || to != -1 || len(back) > 0 {
		t.Errorf("Receive tells %v to %d, error %d", back, to, err)
	}
	if p.r.Known() != (api.Vector{1, 2}) || !slices.Equal(p.r.View().Lines(), []string{"node b"}) {
		t.Errorf("known is %v, seen %q", p.r.Known(), p.r.View().Lines())
	}
	if got := p.r.Buffered(); !slices.Equal(got, slices.Concat(mine, l)) {
		t.Errorf("buffered is %+v", got)
	}
	if known, ok := p.r.Acked(1); known != (api.Vector{1, 2, 5}) || !ok {
		t.Errorf("Acked is %v, %v", known, ok)
	}
	if known, ok := p.r.Acked(2); known != (api.Vector{}) || !ok {
		t.Errorf("Acked of the other one is %v, %v", known, ok)
	}
	if got, synced := p.r.Disk(); got != size+len(recordOf(l)) || synced != size {
		t.Errorf("the disk has %d bytes, %d synced", got, synced)
	}
	// The same ones come again, with one that is new.
	more := slices.Concat(l, eventsOf(1, api.Vector{1, 2}, []api.Change{add("c")}))
	p.receive(deltaOf(t, 1, 0, api.Vector{1, 3}, more))
	if got, _ := p.r.Disk(); got != size+len(recordOf(more)) || p.r.Known() != (api.Vector{1, 3}) {
		t.Errorf("the disk has %d bytes, known is %v", got, p.r.Known())
	}
	// Nothing new: the buffer hears of the peer all the same.
	p.receive(deltaOf(t, 2, 0, api.Vector{1, 3}, more))
	if got, _ := p.r.Disk(); got != size+len(recordOf(more)) || len(p.r.Buffered()) > 0 {
		t.Errorf("the disk has %d bytes, buffered is %+v", got, p.r.Buffered())
	}
	p.write(add("d"))
	for _, peer := range []int{1, 2} {
		p.receive(deltaOf(t, peer, 0, api.Vector{2, 1}, nil))
	}
	if got := p.r.Buffered(); len(got) > 0 {
		t.Errorf("behind deltas without events is buffered %+v", got)
	}
}

// TestReceiveDeltaOfTwoP15_1: of two, what a peer tells doesn't stay in the buffer.
func TestReceiveDeltaOfTwoP15_1(t *testing.T) {
	p := pairOf(t, 2, 1)
	mine, _ := p.write(add("b"))
	p.receive(deltaOf(t, 0, 1, api.Vector{2}, others(0, add("a"), link("a", "K", "b"))))
	if got := p.r.Buffered(); !slices.Equal(got, mine) {
		t.Errorf("buffered is %+v", got)
	}
	if got := p.r.View().Lines(); !slices.Equal(got, []string{"node a", "node b", "edge a K b"}) {
		t.Errorf("seen is %q", got)
	}
}

// TestReceiveDeltaTwiceP15_1: an event that stands in a delta twice is taken once.
func TestReceiveDeltaTwiceP15_1(t *testing.T) {
	p := pairOf(t, 3, 0)
	l := others(1, add("a"), add("b"))
	other := l[0]
	other.Elem.A = "c"
	p.receive(deltaOf(t, 1, 0, api.Vector{1: 2}, []api.Event{l[0], l[0], l[1], other, l[1]}))
	if got := p.r.Buffered(); !slices.Equal(got, l) || p.r.Known() != (api.Vector{1: 2}) {
		t.Errorf("buffered is %+v, known %v", got, p.r.Known())
	}
	if size, _ := p.r.Disk(); size != len(recordOf(l)) {
		t.Errorf("the disk has %d bytes", size)
	}
}

// TestReceiveDeltaGapP15_1: if one event may not come, none of them does, and the buffer hears nothing.
func TestReceiveDeltaGapP15_1(t *testing.T) {
	p := unsynced(t, 4, 0, 1)
	l := others(2, add("x"), add("y"), add("z"))
	unseen := eventsOf(1, api.Vector{2, 1, 0, 1}, []api.Change{add("w")})
	mine := eventsOf(0, api.Vector{3}, []api.Change{add("v")})
	for name, row := range map[string][]api.Event{
		"one alone":                {l[1]},
		"the last one alone":       {l[2]},
		"one between left out":     {l[0], l[2]},
		"another order":            {l[1], l[0], l[2]},
		"a Past that isn't known":  {l[0], l[1], unseen[0]},
		"such a one ahead":         {unseen[0], l[0], l[1], l[2]},
		"an own one with a gap":    {l[0], mine[0]},
		"one of no replica of all": {l[0], others(15, add("u"), add("v"))[1]},
	} {
		back, to, err := p.receive(deltaOf(t, 2, 0, full(9), row))
		if err != api.ErrGap || to != -1 || len(back) > 0 {
			t.Errorf("Receive with %s tells %v to %d, error %d", name, back, to, err)
		}
		if known, _ := p.r.Acked(2); known != (api.Vector{}) || p.r.Known() != (api.Vector{2, 1}) {
			t.Errorf("behind %s Acked is %v, Known %v", name, known, p.r.Known())
		}
	}
	if size, synced := p.r.Disk(); size == synced {
		t.Error("a delta that is refused syncs")
	}
	_, _, err := p.receive(deltaOf(t, 2, 0, full(9), l))
	p.must(err, api.OK)
}

// TestReceiveDeltaOfOthersP15_1: events may be of any replica, of one that there isn't, and of this one too.
func TestReceiveDeltaOfOthersP15_1(t *testing.T) {
	p := pairOf(t, 2, 0)
	p.write(add("a"))
	mine := eventsOf(0, api.Vector{1}, []api.Change{add("b"), add("c")})
	theirs := others(15, add("d"))
	_, _, err := p.receive(deltaOf(t, 1, 0, api.Vector{0: 3, 15: 1}, slices.Concat(theirs, mine)))
	if p.must(err, api.OK); p.r.Known() != (api.Vector{0: 3, 15: 1}) {
		t.Errorf("known is %v", p.r.Known())
	}
	l, _ := p.write(add("e"))
	if l[0].Dot != (api.Dot{Count: 4}) || l[0].Past != (api.Vector{0: 3, 15: 1}) {
		t.Errorf("Write tells %+v", l)
	}
	p.compact()
	p.crash(0, 0, 0)
	p.must(p.recover(), api.OK)
}

// TestReceiveDeltaOfMostP15_1 takes as many as a delta may have, all of them the longest.
func TestReceiveDeltaOfMostP15_1(t *testing.T) {
	p, q := pairOf(t, 2, 0), pairOf(t, 2, 1)
	name := longest()
	e := api.Elem{Kind: api.ElemTrait, A: name, B: name, C: name, D: name}
	var row []api.Change
	for i := range mostEvents + 1 {
		row = append(row, api.Change{Op: api.OpSet, Elem: e, Value: setText("a", "p", string(bytes.Repeat([]byte{byte(32 + i%95)}, api.MaxText))).Value})
	}
	l, _ := p.write(row...)
	for _, left := range []int{mostEvents + 1, 1, 0} {
		b, _ := q.digest(0)
		back, to, err := p.receive(b)
		if err != api.OK || to != 1 || len(p.r.Buffered()) != left {
			t.Fatalf("the digest is answered to %d, error %d, and leaves %d", to, err, len(p.r.Buffered()))
		}
		_, _, err = q.receive(back)
		q.must(err, api.OK)
	}
	if q.r.Known() != p.r.Known() || len(l) != q.r.Known()[0] {
		t.Errorf("known is %v", q.r.Known())
	}
}

// TestReceiveDeltaFullP15_1: what doesn't fit isn't taken, none of it, and the buffer hears nothing; what just fits is.
func TestReceiveDeltaFullP15_1(t *testing.T) {
	const left = 100
	p := filled(t, left)
	first := eventsOf(1, api.Vector{1: 1}, []api.Change{sized(0), sized(0)})
	more := left - len(recordOf(first))
	if more < 0 || more >= api.MaxText {
		t.Fatalf("%d bytes are left", more)
	}
	fits := eventsOf(1, api.Vector{1: 1}, []api.Change{sized(0), sized(more)})
	over := eventsOf(1, api.Vector{1: 1}, []api.Change{sized(0), sized(more + 1)})
	before := p.r.Known()
	for _, l := range [][]api.Event{over, slices.Concat(over, eventsOf(1, api.Vector{1: 3}, []api.Change{sized(0)}))} {
		_, to, err := p.receive(deltaOf(t, 1, 0, api.Vector{0: 500, 1: 9}, l))
		if p.must(err, api.ErrFull); to != -1 || p.r.Known() != before {
			t.Errorf("Receive tells something to %d, known is %v", to, p.r.Known())
		}
	}
	// A gap is named first.
	gap := eventsOf(1, api.Vector{1: 8}, []api.Change{sized(0)})
	_, _, err := p.receive(deltaOf(t, 1, 0, api.Vector{1: 9}, slices.Concat(over, gap)))
	p.must(err, api.ErrGap)
	if size, synced := p.r.Disk(); size == synced {
		t.Error("a delta that doesn't fit syncs")
	}
	_, _, err = p.receive(deltaOf(t, 1, 0, api.Vector{0: 500, 1: 9}, fits))
	if p.must(err, api.OK); p.r.Known()[1] != 3 {
		t.Errorf("known is %v", p.r.Known())
	}
	if size, synced := p.r.Disk(); size != api.MaxDisk || synced == size {
		t.Errorf("the disk has %d bytes, %d synced", size, synced)
	}
	// A full disk takes what brings nothing.
	_, _, err = p.receive(deltaOf(t, 1, 0, api.Vector{0: 600, 1: 9}, fits))
	p.must(err, api.OK)
	_, _, err = p.receive(digestOf(t, 1, 0, api.Vector{}))
	p.must(err, api.OK)
}
