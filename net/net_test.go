package net_test

import (
	"bytes"
	"math"
	"math/rand"
	"testing"

	"hedgerow/api"
	"hedgerow/net"
)

// way is the chapter's words of one parcel: what was sent, to whom, and the one turn that came of it.
type way struct {
	to     int
	sent   string
	turned bool
	at     int
	by     byte
}

func (w way) bytes() []byte {
	out := []byte(w.sent)
	if w.turned {
		out[w.at] ^= w.by
	}
	return out
}

// model is the chapter's words of a net.
type model struct{ ways []way }

func (m *model) has(i int) bool { return i >= 0 && i < len(m.ways) }

func (m *model) send(to int, b []byte) api.Errno {
	if len(m.ways) == api.MaxFlight {
		return api.ErrFull
	}
	m.ways = append(m.ways, way{to: to, sent: string(b)})
	return api.OK
}

func (m *model) take(i int) (net.Parcel, api.Errno) {
	if !m.has(i) {
		return net.Parcel{}, api.ErrNone
	}
	var left []way
	for k, w := range m.ways {
		if k != i {
			left = append(left, w)
		}
	}
	out := net.Parcel{To: m.ways[i].to, Bytes: m.ways[i].bytes()}
	m.ways = left
	return out, api.OK
}

func (m *model) double(i int) api.Errno {
	if !m.has(i) {
		return api.ErrNone
	}
	if len(m.ways) == api.MaxFlight {
		return api.ErrFull
	}
	m.ways = append(m.ways, m.ways[i])
	return api.OK
}

func (m *model) turn(i, at int, by byte) api.Errno {
	if !m.has(i) {
		return api.ErrNone
	}
	if at < 0 || at >= len(m.ways[i].sent) {
		return api.ErrRange
	}
	if m.ways[i].turned {
		return api.ErrArg
	}
	m.ways[i].turned, m.ways[i].at, m.ways[i].by = true, at, by
	return api.OK
}

// alike holds one parcel against what it ought to be; no bytes and nil are one.
func alike(a, b net.Parcel) bool { return a.To == b.To && bytes.Equal(a.Bytes, b.Bytes) }

// has holds a net against the parcels that it ought to have.
func has(t *testing.T, name string, n *net.Net, want ...net.Parcel) {
	t.Helper()
	got := n.All()
	if n.Len() != len(want) || len(got) != len(want) {
		t.Fatalf("%s: Len tells %d, All %d, not %d", name, n.Len(), len(got), len(want))
	}
	for i := range want {
		if !alike(got[i], want[i]) {
			t.Fatalf("%s: parcel %d is %v, not %v", name, i, got[i], want[i])
		}
	}
}

// like holds a net against a model.
func like(t *testing.T, name string, n *net.Net, m *model) {
	t.Helper()
	var want []net.Parcel
	for _, w := range m.ways {
		want = append(want, net.Parcel{To: w.to, Bytes: w.bytes()})
	}
	has(t, name, n, want...)
}

// to is a parcel.
func to(who int, b ...byte) net.Parcel { return net.Parcel{To: who, Bytes: b} }

// of is a net of these.
func of(t *testing.T, l ...net.Parcel) *net.Net {
	t.Helper()
	n := net.New()
	for i, p := range l {
		if err := n.Send(p.To, p.Bytes); err != api.OK {
			t.Fatalf("Send %d tells %d", i, err)
		}
	}
	return n
}

// full is a net of MaxFlight parcels, each to its number.
func full(t *testing.T) *net.Net {
	t.Helper()
	n := net.New()
	for i := range api.MaxFlight {
		if err := n.Send(i, []byte{byte(i), 1}); err != api.OK {
			t.Fatalf("Send %d tells %d", i, err)
		}
	}
	return n
}

// TestExampleP16_1: two are sent, the second one is taken: the first one is left.
func TestExampleP16_1(t *testing.T) {
	n := of(t, to(0, 1, 2), to(1, 3))
	got, err := n.Take(1)
	if err != api.OK || !alike(got, to(1, 3)) {
		t.Fatalf("Take(1) tells %v, %d", got, err)
	}
	has(t, "the example", n, to(0, 1, 2))
}

func TestNewP16_1(t *testing.T) {
	a, b := net.New(), net.New()
	has(t, "a new net", a)
	a.Send(1, []byte{2})
	has(t, "another net", b)
	has(t, "a third net", net.New())
}

// TestSendP16_1: to anyone, of any bytes; what is sent stands behind all.
func TestSendP16_1(t *testing.T) {
	n := net.New()
	long := bytes.Repeat([]byte{7, 0, 255}, api.MaxDisk)
	l := []net.Parcel{
		to(0, 1), to(15, 2, 3), to(0), to(-1, 0), to(16, 255), to(math.MaxInt, 4), to(math.MinInt, 5), to(0, 1), {To: 3, Bytes: []byte{}}, {To: 2, Bytes: long},
	}
	for i, p := range l {
		if err := n.Send(p.To, p.Bytes); err != api.OK {
			t.Fatalf("Send %d tells %d", i, err)
		}
		has(t, "what was sent", n, l[:i+1]...)
	}
}

// TestFullP16_1: there are MaxFlight at most, whether sent or doubled; one that is taken leaves room for one.
func TestFullP16_1(t *testing.T) {
	n := full(t)
	before := n.All()
	for _, i := range []int{0, 1, 100, api.MaxFlight - 1} {
		if err := n.Double(i); err != api.ErrFull {
			t.Fatalf("Double(%d) of a full net tells %d", i, err)
		}
	}
	for _, i := range []int{-1, api.MaxFlight, math.MaxInt, math.MinInt} {
		if err := n.Double(i); err != api.ErrNone {
			t.Fatalf("Double(%d) of a full net tells %d: the chapter names ErrNone first", i, err)
		}
	}
	for range 3 {
		if err := n.Send(1, []byte{1}); err != api.ErrFull {
			t.Fatalf("Send to a full net tells %d", err)
		}
	}
	if err := n.Send(1, nil); err != api.ErrFull {
		t.Fatalf("Send of no bytes to a full net tells %d", err)
	}
	has(t, "a full net", n, before...)
	n.Take(5)
	if n.Len() != api.MaxFlight-1 || n.Double(0) != api.OK || n.Double(0) != api.ErrFull {
		t.Fatal("one that is taken leaves no room, or too much, for a double")
	}
	n.Take(7)
	if n.Send(9, []byte{9}) != api.OK || n.Send(9, []byte{9}) != api.ErrFull {
		t.Fatal("one that is taken leaves no room, or too much, for one that is sent")
	}
	left := append(append(append(copied(before[:5]), copied(before[6:8])...), copied(before[9:])...), before[0], to(9, 9))
	has(t, "behind all that", n, left...)
	if n.Len() != api.MaxFlight {
		t.Fatalf("%d are under way", n.Len())
	}
}

// copied is a row of its own.
func copied(l []net.Parcel) []net.Parcel { return append([]net.Parcel(nil), l...) }

// TestTakeP16_1: each of a row may be taken; the others stay in their order.
func TestTakeP16_1(t *testing.T) {
	l := []net.Parcel{to(3, 1), to(2, 2, 2), to(1), to(0, 3)}
	for i := range l {
		n := of(t, l...)
		got, err := n.Take(i)
		if err != api.OK || !alike(got, l[i]) {
			t.Fatalf("Take(%d) tells %v, %d", i, got, err)
		}
		has(t, "the others", n, append(copied(l[:i]), l[i+1:]...)...)
	}
	n := of(t, l...)
	for i := range l {
		got, err := n.Take(0)
		if err != api.OK || !alike(got, l[i]) {
			t.Fatalf("Take(0) tells %v, %d, for the %dth time", got, err, i)
		}
	}
	has(t, "all are taken", n)
	if p, err := n.Take(0); err != api.ErrNone || p.To != 0 || p.Bytes != nil {
		t.Fatalf("Take(0) of an empty net tells %v, %d", p, err)
	}
	n.Send(5, []byte{6})
	has(t, "one that is sent then", n, to(5, 6))
}

// TestNoneP16_1: a number of no parcel is told, and changes nothing.
func TestNoneP16_1(t *testing.T) {
	l := []net.Parcel{to(3, 1), to(2, 2, 2), to(1)}
	for k := range len(l) + 1 {
		n := of(t, l[:k]...)
		for _, i := range []int{k, k + 1, -1, -k - 1, api.MaxFlight, math.MaxInt, math.MinInt} {
			p, err := n.Take(i)
			if err != api.ErrNone || p.To != 0 || p.Bytes != nil {
				t.Errorf("Take(%d) of %d tells %v, %d", i, k, p, err)
			}
			if err := n.Double(i); err != api.ErrNone {
				t.Errorf("Double(%d) of %d tells %d", i, k, err)
			}
			for _, at := range []int{0, -1, 1, math.MaxInt, math.MinInt} {
				if err := n.Turn(i, at, 1); err != api.ErrNone {
					t.Errorf("Turn(%d, %d, 1) of %d tells %d", i, at, k, err)
				}
			}
			has(t, "a number of no parcel", n, l[:k]...)
		}
	}
}

// TestDoubleP16_1: one like it, to whom it is, behind all; each is turned and taken for itself.
func TestDoubleP16_1(t *testing.T) {
	n := of(t, to(4, 1, 2), to(5), to(6, 3))
	for _, i := range []int{0, 1, 3, 2} {
		if err := n.Double(i); err != api.OK {
			t.Fatalf("Double(%d) tells %d", i, err)
		}
	}
	has(t, "doubles", n, to(4, 1, 2), to(5), to(6, 3), to(4, 1, 2), to(5), to(4, 1, 2), to(6, 3))
	n.Turn(3, 0, 8)
	has(t, "a turned double", n, to(4, 1, 2), to(5), to(6, 3), to(4, 9, 2), to(5), to(4, 1, 2), to(6, 3))
	n.Turn(0, 1, 1)
	has(t, "a turned one that has doubles", n, to(4, 1, 3), to(5), to(6, 3), to(4, 9, 2), to(5), to(4, 1, 2), to(6, 3))
	n.Take(0)
	n.Take(4)
	has(t, "taken", n, to(5), to(6, 3), to(4, 9, 2), to(5), to(6, 3))
}

// TestTurnP16_1: each byte may be turned, by all bits, and no other one is.
func TestTurnP16_1(t *testing.T) {
	for at := range 3 {
		for by := range 256 {
			n := of(t, to(1, 9), to(2, 0, 255, 0x5a), to(3, 8))
			if err := n.Turn(1, at, byte(by)); err != api.OK {
				t.Fatalf("Turn(1, %d, %d) tells %d", at, by, err)
			}
			want := to(2, 0, 255, 0x5a)
			want.Bytes[at] ^= byte(by)
			has(t, "turned", n, to(1, 9), want, to(3, 8))
			if p, err := n.Take(1); err != api.OK || !alike(p, want) {
				t.Fatalf("Take of a turned one tells %v, %d", p, err)
			}
		}
	}
}

// TestTurnRangeP16_1: a byte that it hasn't is told, also of one that was turned: the chapter names ErrRange first.
func TestTurnRangeP16_1(t *testing.T) {
	n := of(t, to(1), to(2, 4), to(3, 5, 6, 7))
	n.Turn(2, 1, 1)
	for i, size := range []int{0, 1, 3} {
		for _, at := range []int{size, size + 1, -1, -size - 1, math.MaxInt, math.MinInt} {
			if err := n.Turn(i, at, 3); err != api.ErrRange {
				t.Errorf("Turn(%d, %d, 3) tells %d", i, at, err)
			}
		}
	}
	has(t, "a byte that it hasn't", n, to(1), to(2, 4), to(3, 5, 7, 7))
	if err := n.Turn(1, 0, 1); err != api.OK {
		t.Errorf("a refused Turn counts: the next one tells %d", err)
	}
}

// TestTurnOnceP16_1: one that was turned isn't turned again, nor is one like it, or like that.
func TestTurnOnceP16_1(t *testing.T) {
	n := of(t, to(1, 1, 2, 3), to(2, 7))
	n.Turn(0, 1, 16)
	n.Double(0) // number 2
	n.Double(2) // number 3
	for _, i := range []int{0, 2, 3} {
		for at := range 3 {
			for _, by := range []byte{1, 16, 255, 0} {
				if err := n.Turn(i, at, by); err != api.ErrArg {
					t.Fatalf("Turn(%d, %d, %d) of a turned one tells %d", i, at, by, err)
				}
			}
		}
	}
	has(t, "turned once", n, to(1, 1, 18, 3), to(2, 7), to(1, 1, 18, 3), to(1, 1, 18, 3))
	n.Take(0) // numbers change; what was turned stays so
	if n.Turn(1, 0, 1) != api.ErrArg || n.Turn(2, 0, 1) != api.ErrArg || n.Turn(0, 0, 1) != api.OK || n.Turn(0, 0, 1) != api.ErrArg {
		t.Fatal("what was turned isn't told behind a Take")
	}
	has(t, "behind a Take", n, to(2, 6), to(1, 1, 18, 3), to(1, 1, 18, 3))
	n.Send(1, []byte{1, 18, 3}) // sent, not doubled
	if err := n.Turn(3, 2, 2); err != api.OK {
		t.Fatalf("Turn of one that was sent anew tells %d", err)
	}
	has(t, "sent anew", n, to(2, 6), to(1, 1, 18, 3), to(1, 1, 18, 3), to(1, 1, 18, 1))
}

// TestTurnOfDoublesP16_1: a double of one that wasn't turned yet may be, once, whatever came to the other.
func TestTurnOfDoublesP16_1(t *testing.T) {
	n := of(t, to(1, 1, 2, 3))
	n.Double(0)
	n.Double(0)
	for i := range 3 {
		if err := n.Turn(i, i, 64); err != api.OK {
			t.Fatalf("Turn(%d, %d, 64) tells %d", i, i, err)
		}
		if err := n.Turn(i, 0, 64); err != api.ErrArg {
			t.Fatalf("Turn(%d, 0, 64) tells %d the second time", i, err)
		}
	}
	has(t, "each turned once", n, to(1, 65, 2, 3), to(1, 1, 66, 3), to(1, 1, 2, 67))
}

// TestTurnByNothingP16_1: one that was turned by no bits was turned.
func TestTurnByNothingP16_1(t *testing.T) {
	n := of(t, to(1, 1))
	if n.Turn(0, 0, 0) != api.OK || n.Turn(0, 0, 1) != api.ErrArg {
		t.Fatal("a turn by no bits is none")
	}
	has(t, "turned by no bits", n, to(1, 1))
}

// TestSharesNothingP16_1: what is handed in, and what is handed out, is nobody else's.
func TestSharesNothingP16_1(t *testing.T) {
	mine := append(make([]byte, 0, 9), 1, 2, 3)
	n := net.New()
	n.Send(0, mine)
	n.Send(1, mine)
	n.Double(0)
	mine[0] = 9
	has(t, "what was handed in changes", n, to(0, 1, 2, 3), to(1, 1, 2, 3), to(0, 1, 2, 3))
	n.Turn(0, 1, 255)
	if !bytes.Equal(mine[:4], []byte{9, 2, 3, 0}) {
		t.Fatalf("Turn changes what was handed in: %v", mine[:4])
	}
	a, b := n.All(), n.All()
	for i := range a {
		clear(a[i].Bytes[:cap(a[i].Bytes)])
		a[i].To = 77
	}
	_ = append(a[:1], to(8, 8))
	for i, p := range []net.Parcel{to(0, 1, 253, 3), to(1, 1, 2, 3), to(0, 1, 2, 3)} {
		if !alike(b[i], p) {
			t.Fatalf("two answers of All share parcel %d: %v", i, b[i])
		}
	}
	has(t, "All's answer changes", n, to(0, 1, 253, 3), to(1, 1, 2, 3), to(0, 1, 2, 3))
	p, _ := n.Take(0)
	q, _ := n.Take(1)
	clear(p.Bytes[:cap(p.Bytes)])
	if !alike(q, to(0, 1, 2, 3)) || !alike(b[0], to(0, 1, 253, 3)) {
		t.Fatal("Take's answer is another's")
	}
	clear(q.Bytes[:cap(q.Bytes)])
	has(t, "Take's answer changes", n, to(1, 1, 2, 3))
	n.Send(6, []byte{6})
	n.Double(0)
	for i := range p.Bytes {
		p.Bytes[i] = 5
	}
	has(t, "Take's answer changes behind a Send", n, to(1, 1, 2, 3), to(6, 6), to(1, 1, 2, 3))
}

// TestNilP16_1: a nil net answers ErrArg, nothing, 0.
func TestNilP16_1(t *testing.T) {
	var n *net.Net
	for _, i := range []int{0, -1, 1, api.MaxFlight, math.MaxInt, math.MinInt} {
		if err := n.Send(i, []byte{1}); err != api.ErrArg {
			t.Errorf("Send tells %d", err)
		}
		if p, err := n.Take(i); err != api.ErrArg || p.To != 0 || p.Bytes != nil {
			t.Errorf("Take(%d) tells %v, %d", i, p, err)
		}
		if err := n.Double(i); err != api.ErrArg {
			t.Errorf("Double(%d) tells %d", i, err)
		}
		if err := n.Turn(i, i, 1); err != api.ErrArg {
			t.Errorf("Turn(%d, %d, 1) tells %d", i, i, err)
		}
	}
	if len(n.All()) != 0 || n.Len() != 0 {
		t.Error("a nil net has parcels")
	}
}

// TestZeroP5: a net that New didn't make panics as little.
func TestZeroP5(t *testing.T) {
	n := &net.Net{}
	n.Take(0)
	n.Double(0)
	n.Turn(0, 0, 1)
	n.Send(1, []byte{1})
	n.Turn(0, 0, 1)
	n.Double(0)
	n.Take(0)
	if n.Len() != len(n.All()) {
		t.Error("Len and All differ")
	}
}

// some is a number at, or about, one of those that a row of size many has.
func some(r *rand.Rand, size int) int {
	odd := []int{-1, size, size + 1, math.MaxInt, math.MinInt, -size}
	if size == 0 || r.Intn(12) == 0 {
		return odd[r.Intn(len(odd))]
	}
	return r.Intn(size)
}

// TestRowsP16_1: rows of calls of no pattern answer as the chapter's words.
func TestRowsP16_1(t *testing.T) {
	for seed := range int64(60) {
		r := rand.New(rand.NewSource(seed))
		n, m := net.New(), &model{}
		grow := 2 + r.Intn(30) // the greater, the more are under way
		for range 1500 {
			step(t, r, n, m, grow)
		}
		like(t, "at the end", n, m)
	}
}

// step lets one call come, of the net and of the model.
func step(t *testing.T, r *rand.Rand, n *net.Net, m *model, grow int) {
	t.Helper()
	i := some(r, len(m.ways))
	switch k := r.Intn(grow + 5); {
	case k < grow:
		b := make([]byte, r.Intn(5))
		r.Read(b)
		who := r.Intn(18) - 1
		if got, want := n.Send(who, b), m.send(who, b); got != want {
			t.Fatalf("Send tells %d, not %d", got, want)
		}
	case k < grow+2:
		got, err := n.Take(i)
		want, fault := m.take(i)
		if err != fault || !alike(got, want) {
			t.Fatalf("Take(%d) tells %v, %d, not %v, %d", i, got, err, want, fault)
		}
	case k < grow+3:
		if got, want := n.Double(i), m.double(i); got != want {
			t.Fatalf("Double(%d) tells %d, not %d", i, got, want)
		}
	default:
		at, by := some(r, 4), byte(r.Intn(256))
		if got, want := n.Turn(i, at, by), m.turn(i, at, by); got != want {
			t.Fatalf("Turn(%d, %d, %d) tells %d, not %d", i, at, by, got, want)
		}
	}
	if r.Intn(20) == 0 {
		like(t, "under way", n, m)
	}
	if n.Len() != len(m.ways) {
		t.Fatalf("Len tells %d, not %d", n.Len(), len(m.ways))
	}
}
