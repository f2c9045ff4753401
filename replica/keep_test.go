package replica_test

import (
	"math"
	"slices"
	"strconv"
	"strings"
	"testing"

	"hedgerow/api"
	"hedgerow/frame"
)

// again lets a replica crash, without what wasn't synced, and recover.
func (p *pair) again() {
	p.t.Helper()
	p.must(p.crash(0, -1, 0), api.OK)
	p.must(p.recover(), api.OK)
}

// sees holds what is seen against lines.
func (p *pair) sees(want ...string) {
	p.t.Helper()
	if got := p.r.View().Lines(); !slices.Equal(got, want) {
		p.t.Fatalf("seen is %q, not %q", got, want)
	}
}

// buffers holds the dots of the buffer's events against others.
func (p *pair) buffers(want ...api.Dot) {
	p.t.Helper()
	var got []api.Dot
	for _, e := range p.r.Buffered() {
		got = append(got, e.Dot)
	}
	if !slices.Equal(got, want) {
		p.t.Fatalf("buffered is %v, not %v", got, want)
	}
}

// TestCompactP15_1: all that is known stays, synced, as do the buffer's events, and what peers are known to know.
func TestCompactP15_1(t *testing.T) {
	p := unsynced(t, 3, 0, 1)
	p.receive(digestOf(t, 1, 0, api.Vector{2, 1}))
	p.receive(digestOf(t, 2, 0, api.Vector{1, 0, 4}))
	p.receive(deltaOf(t, 1, 0, api.Vector{1: 2}, others(1, add("z"), add("y"))))
	before, _ := p.r.Disk()
	p.must(p.compact(), api.OK)
	size, synced := p.r.Disk()
	if size == before || size != synced {
		t.Errorf("the disk has %d bytes, %d synced", size, synced)
	}
	if known, _ := p.r.Acked(2); known != (api.Vector{1, 0, 4}) {
		t.Errorf("Acked is %v", known)
	}
	left := []api.Dot{{Count: 2}, {Replica: 1, Count: 1}, {Replica: 1, Count: 2}}
	p.buffers(left...)
	p.again()
	p.buffers(left...)
	p.sees("node a", "prop a p 1", "node y", "node z")
	// It is the same when it is compacted once more, and more comes behind.
	p.must(p.compact(), api.OK)
	if got, _ := p.r.Disk(); got != size {
		t.Errorf("the disk has %d bytes, not %d", got, size)
	}
	p.write(remove("y"), clearProp("a", "p"))
	p.again()
	p.sees("node a", "node z")
	p.buffers(append(left, api.Dot{Count: 3}, api.Dot{Count: 4})...)
}

// TestCompactNothingP15_1: a replica that knows nothing has a snapshot, too, and one without peers has no events in it.
func TestCompactNothingP15_1(t *testing.T) {
	p := pairOf(t, 1, 0)
	p.must(p.compact(), api.OK)
	p.again()
	p.write(add("a"), remove("a"), add("b"), setNum("b", "p", 1), setNum("b", "p", 2))
	p.must(p.compact(), api.OK)
	p.buffers()
	p.again()
	p.sees("node b", "prop b p 2")
	p.buffers()
	if l, _ := p.write(add("c")); l[0].Dot != (api.Dot{Count: 6}) || l[0].Past != (api.Vector{5}) {
		t.Errorf("Write tells %+v", l)
	}
}

// TestCompactUndoneP15_1: what was undone stays so, though it isn't told any more; what comes late finds what is left.
func TestCompactUndoneP15_1(t *testing.T) {
	p := pairOf(t, 3, 0)
	p.write(add("a"), setNum("a", "p", 1))
	p.receive(deltaOf(t, 1, 0, api.Vector{1: 2}, others(1, setNum("a", "p", 2), add("a"))))
	p.write(remove("a"), add("b"))
	p.compact()
	p.again()
	p.sees("node b")
	// Replica 2 has seen the first addition and value of each, and undoes these alone.
	late := eventsOf(2, api.Vector{2, 0}, []api.Change{remove("b"), add("a"), setNum("a", "p", 9)})
	p.receive(deltaOf(t, 2, 0, api.Vector{2: 3}, late))
	p.sees("node a", "prop a p 2 9", "node b")
	p.sync()
	p.again()
	p.sees("node a", "prop a p 2 9", "node b")
}

// crowded is a replica of two whose snapshot's record has so many bytes, at least 50000. Its peer isn't known to know anything, and so the snapshot has each event beside what is left of it.
func crowded(t *testing.T, size int) *pair {
	t.Helper()
	p := pairOf(t, 2, 0)
	both := func(l ...api.Change) {
		p.r.Write(l)
		p.m.write(l)
	}
	named := 0
	row := func(n int) []api.Change {
		var l []api.Change
		for range n {
			l = append(l, setText("a", "p"+strconv.Itoa(named), strings.Repeat("x", 50)))
			named++
		}
		return l
	}
	room := func() int { return size - len(frame.Put(nil, append([]byte{recordSnap}, p.m.snapshot(t)...))) }
	both(add("a"))
	for room() > 25000 {
		both(row(100)...)
	}
	for room() > 1500 {
		both(row(5)...)
	}
	// A removal of what isn't there has no item: each byte of its key is but one. The events of such rows fill what is left.
	before := room()
	both(remove("b"))
	one := before - room()
	many := room()/(one+api.MaxName-1) + 1
	for many > 0 {
		more := room() - many*one
		both(remove(strings.Repeat("b", 1+more/many)))
		many--
	}
	if room() != 0 {
		t.Fatalf("%d bytes are left", room())
	}
	held(t, "crowded", p.r, p.m)
	return p
}

// TestCompactNeededP15_1: an event that is still needed, though what undid it isn't, stays undone.
func TestCompactNeededP15_1(t *testing.T) {
	p := pairOf(t, 2, 0)
	p.write(add("a"), add("b"))
	p.receive(deltaOf(t, 1, 0, api.Vector{1: 1}, eventsOf(1, api.Vector{1}, []api.Change{remove("a")})))
	p.buffers(api.Dot{Count: 1}, api.Dot{Count: 2})
	p.compact()
	p.again()
	p.buffers(api.Dot{Count: 1}, api.Dot{Count: 2})
	p.sees("node b")
}

// TestCompactFullP15_1: a snapshot that doesn't fit changes nothing; one that just fits stands alone.
func TestCompactFullP15_1(t *testing.T) {
	t.Parallel()
	p := crowded(t, api.MaxDisk)
	p.must(p.compact(), api.OK)
	if size, synced := p.r.Disk(); size != api.MaxDisk || synced != size {
		t.Errorf("the disk has %d bytes, %d synced", size, synced)
	}
	p.again()

	p = crowded(t, api.MaxDisk+1)
	p.receive(deltaOf(t, 1, 0, api.Vector{1: 1}, others(1, add("z"))))
	p.must(p.spoil(5, 0), api.OK)
	size, synced := p.r.Disk()
	p.must(p.compact(), api.ErrFull)
	if got, still := p.r.Disk(); got != size || still != synced || size == synced {
		t.Errorf("the disk has %d bytes, %d synced", got, still)
	}
	// What was spoilt is so still.
	p.must(p.spoil(5, 0), api.ErrNone)
	// When the peer knows all of it, it fits.
	p.receive(digestOf(t, 1, 0, p.r.Known()))
	p.must(p.compact(), api.OK)
	p.must(p.spoil(5, 0), api.OK)
	p.again()
}

// TestCompactOfFullP15_1: a disk without room has some again, if what is left takes less.
func TestCompactOfFullP15_1(t *testing.T) {
	p := filled(t, 10)
	_, err := p.write(add("a"))
	p.must(err, api.ErrFull)
	p.receive(digestOf(t, 1, 0, p.r.Known()))
	p.must(p.compact(), api.OK)
	if size, _ := p.r.Disk(); size > 1000 {
		t.Errorf("the disk has %d bytes", size)
	}
	_, err = p.write(add("a"))
	p.must(err, api.OK)
	p.again()
}

// TestRecoverBufferP15_1: behind a crash no peer is known to know anything, and what the records tell is buffered again.
func TestRecoverBufferP15_1(t *testing.T) {
	p := pairOf(t, 3, 1)
	p.write(add("a"), add("b"))
	for _, peer := range []int{0, 2} {
		p.receive(digestOf(t, peer, 1, api.Vector{1: 1}))
	}
	p.buffers(api.Dot{Replica: 1, Count: 2})
	p.again()
	p.buffers(api.Dot{Replica: 1, Count: 1}, api.Dot{Replica: 1, Count: 2})
	for _, peer := range []int{0, 2} {
		if known, ok := p.r.Acked(peer); known != (api.Vector{}) || !ok {
			t.Errorf("Acked of %d is %v, %v", peer, known, ok)
		}
		p.receive(digestOf(t, peer, 1, api.Vector{1: 1}))
	}
	// What a snapshot doesn't have any more doesn't come again; what it has does.
	p.compact()
	p.write(add("c"))
	for _, peer := range []int{0, 2} {
		p.receive(digestOf(t, peer, 1, api.Vector{1: 3}))
	}
	p.buffers()
	p.again()
	p.buffers(api.Dot{Replica: 1, Count: 2}, api.Dot{Replica: 1, Count: 3})
	p.sees("node a", "node b", "node c")
}

// TestRecoverRunsP15_1: of one that runs nothing is recovered, nothing synced, and a byte that was spoilt is so still.
func TestRecoverRunsP15_1(t *testing.T) {
	p := unsynced(t, 2, 0, 1)
	p.must(p.recover(), api.ErrNone)
	p.must(p.spoil(1, 0), api.OK)
	p.must(p.recover(), api.ErrNone)
	p.must(p.spoil(1, 0), api.ErrNone)
	if size, synced := p.r.Disk(); size == synced {
		t.Error("Recover of one that runs syncs")
	}
	p.again()
	p.must(p.recover(), api.ErrNone)
}

// TestRecoverNothingP15_1 recovers what never was written.
func TestRecoverNothingP15_1(t *testing.T) {
	for n := 1; n <= api.MaxReplicas; n++ {
		for self := range n {
			p := pairOf(t, n, self)
			p.must(p.crash(math.MaxInt, 0, 255), api.OK)
			p.must(p.recover(), api.OK)
		}
	}
}

// fresh is a replica with a snapshot, a written event, and three received ones that aren't synced.
func fresh(t *testing.T) *pair {
	t.Helper()
	p := pairOf(t, 2, 0)
	p.write(add("a"), setNum("a", "p", 1))
	p.compact()
	p.write(add("b"))
	p.receive(deltaOf(t, 1, 0, api.Vector{1: 3}, others(1, link("a", "K", "b"), setText("b", "q", "x"), remove("a"))))
	return p
}

// TestCrashP15_2 cuts the tail everywhere, and turns bytes of what is left: what was synced is known again, and some of the first of the others.
func TestCrashP15_2(t *testing.T) {
	size, synced := fresh(t).r.Disk()
	tail := size - synced
	left := map[int]int{}
	for keep := -1; keep <= tail+1; keep++ {
		for at := -1; at <= keep; at += 1 + (keep+at+2)%7 {
			for _, by := range []byte{0, 1, 128, 255} {
				p := fresh(t)
				p.must(p.crash(keep, at, by), api.OK)
				p.must(p.recover(), api.OK)
				known := p.r.Known()
				if known[0] != 3 {
					t.Fatalf("a crash that keeps %d and turns byte %d by %d leaves %v", keep, at, by, known)
				}
				left[known[1]]++
				if size, synced := p.r.Disk(); size != synced {
					t.Fatalf("behind Recover of %d bytes %d are synced", size, synced)
				}
			}
		}
	}
	if len(left) != 4 {
		t.Errorf("so many events were left: %v", left)
	}
}

// TestCrashEdgesP15_1 asks for numbers beyond the tail.
func TestCrashEdgesP15_1(t *testing.T) {
	for _, keep := range numbers() {
		for _, at := range numbers() {
			p := fresh(t)
			p.must(p.crash(keep, at, 64), api.OK)
			p.must(p.crash(keep, at, 64), api.ErrStopped)
			p.must(p.recover(), api.OK)
			p.must(p.recover(), api.ErrNone)
			p.write(add("c"))
			p.again()
		}
	}
}

// TestCrashOftenP15_2: of a tail that a crash left nothing is lost any more, once it is recovered.
func TestCrashOftenP15_2(t *testing.T) {
	p := fresh(t)
	p.crash(80, -1, 0)
	p.recover()
	known := p.r.Known()
	for range 5 {
		p.again()
		if p.r.Known() != known {
			t.Fatalf("known is %v, not %v", p.r.Known(), known)
		}
	}
	if known[1] == 0 || known[1] == 3 {
		t.Errorf("known is %v", known)
	}
}

// TestSpoilP15_2: whichever synced byte is spoilt, that is told behind the next crash, and it stays stopped.
func TestSpoilP15_2(t *testing.T) {
	_, synced := fresh(t).r.Disk()
	told := map[api.Errno]int{}
	for at := range synced {
		for _, by := range []byte{1, 8, 128, 255} {
			for _, syncs := range []bool{false, true} {
				p := fresh(t)
				p.must(p.spoil(at, by), api.OK)
				if syncs {
					p.must(p.sync(), api.OK)
				}
				size, whole := p.r.Disk()
				p.must(p.crash(1000, -1, 0), api.OK)
				err := p.recover()
				if told[err]++; err == api.OK || p.r.Running() {
					t.Fatalf("behind byte %d, turned by %d, Recover is %d", at, by, err)
				}
				p.must(p.recover(), err)
				refuses(t, p.r, api.ErrStopped)
				if got, still := p.r.Disk(); got != size || still != whole {
					t.Fatalf("the disk has %d bytes, %d synced, not %d, %d", got, still, size, whole)
				}
			}
		}
	}
	if told[api.ErrCheck] == 0 {
		t.Errorf("so many were told: %v", told)
	}
}

// TestSpoilIntoItselfP15_1: a byte that is turned by nothing is spoilt, but all is whole.
func TestSpoilIntoItselfP15_1(t *testing.T) {
	p := fresh(t)
	_, synced := p.r.Disk()
	for at := range synced {
		p.must(p.spoil(at, 0), api.OK)
		p.must(p.spoil(at, 0), api.ErrNone)
		p.again()
	}
}

// TestSpoilRangeP15_1: only a byte that is synced is spoilt; that there is no such one is told first.
func TestSpoilRangeP15_1(t *testing.T) {
	p := pairOf(t, 2, 0)
	for _, at := range numbers() {
		p.must(p.spoil(at, 1), api.ErrRange)
	}
	p = fresh(t)
	size, synced := p.r.Disk()
	beyond := []int{math.MinInt, -1 << 32, -synced, -1, synced, synced + 1, size - 1, size, size + 1, api.MaxDisk, 1 << 32, math.MaxInt}
	for _, at := range beyond {
		p.must(p.spoil(at, 1), api.ErrRange)
		p.must(p.spoil(at, 0), api.ErrRange)
	}
	p.must(p.spoil(synced-1, 0), api.OK)
	for _, at := range beyond {
		p.must(p.spoil(at, 1), api.ErrRange)
	}
	for _, at := range []int{0, 1, synced - 1} {
		for _, by := range []byte{0, 1, 255} {
			p.must(p.spoil(at, by), api.ErrNone)
		}
	}
	// What is synced by now may be asked for; it was spoilt still.
	p.must(p.sync(), api.OK)
	p.must(p.spoil(synced, 1), api.ErrNone)
	p.must(p.spoil(size, 1), api.ErrRange)
	p.again()
	p.must(p.spoil(size-1, 0), api.OK)
	p.again()
	// The tail's bytes are no such ones, though they are there.
	p.must(p.spoil(size, 0), api.ErrRange)
}

// TestSpoilOnceP15_1: nothing but Compact or Recover lets another byte be spoilt.
func TestSpoilOnceP15_1(t *testing.T) {
	p := fresh(t)
	p.must(p.spoil(3, 0), api.OK)
	steps := map[string]func(){
		"Write":     func() { p.write(add("c")) },
		"Sync":      func() { p.sync() },
		"Digest":    func() { p.digest(1) },
		"a digest":  func() { p.receive(digestOf(t, 1, 0, full(3))) },
		"a delta":   func() { p.receive(deltaOf(t, 1, 0, full(4), nil)) },
		"no Spoil":  func() { p.spoil(-1, 0) },
		"Recover":   func() { p.recover() },
		"another":   func() { p.spoil(4, 1) },
		"a refused": func() { p.receive(nil) },
	}
	for name, step := range steps {
		step()
		if err := p.spoil(0, 1); err != api.ErrNone {
			t.Errorf("behind %s Spoil is %d", name, err)
		}
	}
	p.again()
	p.must(p.spoil(3, 0), api.OK)
	p.must(p.compact(), api.OK)
	p.must(p.spoil(3, 7), api.OK)
	p.must(p.spoil(3, 7), api.ErrNone)
	// A snapshot stands in place of what was spoilt.
	p.must(p.compact(), api.OK)
	p.again()
	p.must(p.spoil(3, 7), api.OK)
	p.must(p.crash(0, 0, 0), api.OK)
	p.must(p.spoil(3, 7), api.ErrStopped)
	p.must(p.recover(), api.ErrCheck)
	p.must(p.spoil(3, 7), api.ErrStopped)
	p.must(p.recover(), api.ErrCheck)
}
