package replica_test

import (
	"bytes"
	"slices"
	"testing"

	"hedgerow/api"
)

// These are those of the document's examples of the whole that replicas alone can tell.

// round lets one tell what it knows, the other one answer, and the first one hear it.
func round(one, other *pair) {
	one.t.Helper()
	b, err := one.digest(other.m.self)
	one.must(err, api.OK)
	back, to, err := other.receive(b)
	if one.must(err, api.OK); to != one.m.self {
		one.t.Fatalf("what goes back is to %d", to)
	}
	_, _, err = one.receive(back)
	one.must(err, api.OK)
}

// both lets each of two tell the other one.
func both(one, other *pair) {
	one.t.Helper()
	round(one, other)
	round(other, one)
}

// two are those of two.
func two(t *testing.T) (*pair, *pair) {
	t.Helper()
	return pairOf(t, 2, 0), pairOf(t, 2, 1)
}

func TestUnheardAdditionStaysP15_1(t *testing.T) {
	p, q := two(t)
	p.write(add("a"))
	q.write(remove("a"))
	both(p, q)
	p.sees("node a")
	q.sees("node a")
}

func TestHeardAdditionGoesP15_1(t *testing.T) {
	p, q := two(t)
	p.write(add("a"))
	round(q, p)
	q.sees("node a")
	q.write(remove("a"))
	both(p, q)
	p.sees()
	q.sees()
}

func TestSetApartP15_1(t *testing.T) {
	p, q := two(t)
	p.write(add("a"), setNum("a", "p", 2))
	q.write(setNum("a", "p", 1))
	both(p, q)
	p.sees("node a", "prop a p 1 2")
	q.sees("node a", "prop a p 1 2")
	q.write(setNum("a", "p", 3))
	both(p, q)
	p.sees("node a", "prop a p 3")
}

func TestEdgeWithoutItsEndP15_1(t *testing.T) {
	p, q := two(t)
	p.write(add("a"), add("b"), link("a", "K", "b"))
	both(p, q)
	q.write(remove("b"))
	both(p, q)
	p.sees("node a")
	p.write(add("b"))
	both(p, q)
	q.sees("node a", "node b", "edge a K b")
}

func TestWriteIsKnownAgainP15_2(t *testing.T) {
	p := pairOf(t, 2, 0)
	for i := range 5 {
		l, err := p.write(setNum("a", "p", i), add("a"))
		p.must(err, api.OK)
		p.again()
		if p.r.Known() != (api.Vector{2*i + 2}) || !slices.Equal(p.r.Buffered()[2*i:], l) {
			t.Errorf("known is %v", p.r.Known())
		}
	}
	p.sees("node a", "prop a p 4")
}

// TestLostComesAgainP15_2: what was received, not synced, and lost comes again with the next round.
func TestLostComesAgainP15_2(t *testing.T) {
	p, q := two(t)
	p.write(add("a"))
	round(q, p)
	q.sees("node a")
	q.again()
	q.sees()
	if len(p.r.Buffered()) != 1 {
		t.Fatalf("buffered is %+v", p.r.Buffered())
	}
	both(p, q)
	q.sees("node a")
	// It tells that it knows it, and so it doesn't lose it any more.
	round(p, q)
	q.again()
	q.sees("node a")
}

// TestToldPeerP15_2: what a digest, or an answer, tells that is known is synced first, though it was but received.
func TestToldPeerP15_2(t *testing.T) {
	for _, answers := range []bool{false, true} {
		p := unsynced(t, 3, 0, 1)
		if answers {
			back, _, _ := p.receive(digestOf(t, 2, 0, api.Vector{}))
			if read(t, back).Known != (api.Vector{2, 1}) {
				t.Errorf("told is %+v", read(t, back))
			}
		} else {
			p.digest(2)
		}
		p.again()
		if p.r.Known() != (api.Vector{2, 1}) {
			t.Errorf("known is %v", p.r.Known())
		}
	}
}

// TestRoundP15_1: behind one round all know what any of them knew, behind a second one nothing is buffered.
func TestRoundP15_1(t *testing.T) {
	for n := 2; n <= 5; n++ {
		var l []*pair
		want := api.Vector{}
		for i := range n {
			p := pairOf(t, n, i)
			p.write(changes()[i : 2*i+2]...)
			want[i] = i + 2
			l = append(l, p)
		}
		rounds := func() {
			for _, p := range l {
				for _, q := range l {
					if p != q {
						round(p, q)
					}
				}
			}
		}
		rounds()
		for _, p := range l {
			if p.r.Known() != want || !slices.Equal(p.r.View().Lines(), l[0].r.View().Lines()) {
				t.Errorf("of %d, one knows %v, not %v", n, p.r.Known(), want)
			}
		}
		rounds()
		for _, p := range l {
			if len(p.r.Buffered()) > 0 {
				t.Errorf("of %d, one has %d events buffered", n, len(p.r.Buffered()))
			}
		}
	}
}

func TestTurnedIsRefusedP15_1(t *testing.T) {
	p, q := two(t)
	p.write(add("a"))
	b, _ := q.digest(0)
	back, _, _ := p.receive(b)
	for at := range back {
		turned := bytes.Clone(back)
		turned[at] ^= 32
		if _, _, err := q.receive(turned); err == api.OK {
			t.Errorf("with byte %d turned it is taken", at)
		}
	}
	q.sees()
}

func TestSpoiltStaysStoppedP15_2(t *testing.T) {
	p := pairOf(t, 2, 0)
	p.write(add("a"))
	p.spoil(10, 1)
	p.sees("node a")
	p.crash(0, 0, 0)
	for range 3 {
		p.must(p.recover(), api.ErrCheck)
		nothing(t, p.r)
	}
}
