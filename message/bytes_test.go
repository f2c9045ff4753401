package message_test

import (
	"bytes"
	"encoding/binary"
	"fmt"
	"hash/crc32"
	"maps"
	"math"
	"math/rand"
	"slices"
	"strings"
	"testing"

	"hedgerow/api"
	"hedgerow/message"
)

// numberBytes are a number's, by the sentence of layer 2; none, if it has none.
func numberBytes(n int) []byte {
	switch {
	case n < 0 || n > 1<<62-1:
		return nil
	case n > 127:
		return append([]byte{byte(n&127) + 128}, numberBytes(n>>7)...)
	}
	return []byte{byte(n)}
}

// signedBytes are a signed number's.
func signedBytes(n int) []byte {
	switch {
	case n < -1<<60 || n > 1<<60:
		return nil
	case n < 0:
		return numberBytes(-2*n - 1)
	}
	return numberBytes(2 * n)
}

// textBytes are a text's.
func textBytes(s string) []byte { return append(numberBytes(len(s)), s...) }

// vectorParts are the bytes of a vector, number by number.
func vectorParts(v api.Vector) [][]byte {
	var l [][]byte
	for _, n := range v {
		l = append(l, numberBytes(n))
	}
	return l
}

// eventParts are the bytes of an event, by the sentence of layer 6, number by number, text by text.
func eventParts(e api.Event) [][]byte {
	l := append([][]byte{numberBytes(e.Dot.Replica), numberBytes(e.Dot.Count)}, vectorParts(e.Past)...)
	l = append(l, numberBytes(e.Op), numberBytes(e.Elem.Kind), textBytes(e.Elem.A), textBytes(e.Elem.B), textBytes(e.Elem.C), textBytes(e.Elem.D))
	return append(l, numberBytes(e.Value.Kind), signedBytes(e.Value.Num), textBytes(e.Value.Text))
}

// parts are a message's payload by the chapter's sentence, number by number, text by text.
func parts(m api.Message) [][]byte {
	l := append([][]byte{numberBytes(m.Kind), numberBytes(m.From), numberBytes(m.To)}, vectorParts(m.Known)...)
	l = append(l, numberBytes(len(m.Events)))
	for _, e := range m.Events {
		l = append(l, eventParts(e)...)
	}
	return l
}

// payload is a message's, whatever it is.
func payload(m api.Message) []byte { return bytes.Join(parts(m), nil) }

// framed is the sentence of layer 4 on a frame; of a payload whose length three bytes can tell.
func framed(p []byte) []byte {
	n := len(p)
	b := []byte{byte(n), byte(n >> 8), byte(n >> 16), 0}
	b[3] = 165 ^ b[0] ^ b[1] ^ b[2]
	return binary.LittleEndian.AppendUint32(append(b, p...), crc32.ChecksumIEEE(p))
}

// laid is a message's bytes, whatever it is.
func laid(m api.Message) []byte { return framed(payload(m)) }

// scan goes over a payload by the chapters' sentences; ok: it is a message's so far.
type scan struct {
	b  []byte
	ok bool
}

func (s *scan) number() int {
	n := 0
	for i := 0; i < 9 && i < len(s.b); i++ {
		n |= int(s.b[i]&127) << (7 * i)
		if s.b[i] < 128 {
			s.ok = s.ok && bytes.Equal(numberBytes(n), s.b[:i+1])
			s.b = s.b[i+1:]
			return n
		}
	}
	s.ok = false
	return 0
}

func (s *scan) signed() int {
	n := s.number()
	if n > 1<<61 {
		s.ok = false
	}
	if n%2 == 1 {
		return -(n + 1) / 2
	}
	return n / 2
}

func (s *scan) text() string {
	n := s.number()
	if !s.ok || n > len(s.b) {
		s.ok = false
		return ""
	}
	says := string(s.b[:n])
	s.b = s.b[n:]
	return says
}

func (s *scan) vector() api.Vector {
	var v api.Vector
	for i := range v {
		v[i] = s.number()
	}
	return v
}

func (s *scan) event() api.Event {
	var e api.Event
	e.Dot.Replica = s.number()
	e.Dot.Count = s.number()
	e.Past = s.vector()
	e.Op = s.number()
	e.Elem.Kind = s.number()
	for _, name := range []*string{&e.Elem.A, &e.Elem.B, &e.Elem.C, &e.Elem.D} {
		*name = s.text()
	}
	e.Value.Kind = s.number()
	e.Value.Num = s.signed()
	e.Value.Text = s.text()
	return e
}

func (s *scan) message() api.Message {
	var m api.Message
	m.Kind = s.number()
	m.From = s.number()
	m.To = s.number()
	m.Known = s.vector()
	for n := s.number(); n > 0 && s.ok; n-- {
		m.Events = append(m.Events, s.event())
	}
	s.ok = s.ok && len(s.b) == 0
	return m
}

// frameFault is what layer 4 tells of bytes that ought to be one frame.
func frameFault(b []byte) api.Errno {
	if len(b) < 4 {
		return api.ErrForm
	}
	if b[3] != 165^b[0]^b[1]^b[2] {
		return api.ErrCheck
	}
	n := int(b[0]) + 256*int(b[1]) + 65536*int(b[2])
	if n > api.MaxDisk {
		return api.ErrLong
	}
	if len(b) < n+8 {
		return api.ErrForm
	}
	if binary.LittleEndian.Uint32(b[n+4:]) != crc32.ChecksumIEEE(b[4:n+4]) {
		return api.ErrCheck
	}
	if len(b) > n+8 {
		return api.ErrForm
	}
	return api.OK
}

// brief is the beginning of a message's text: some are very long.
func brief(m api.Message) string {
	m.Events = m.Events[:min(len(m.Events), 9)]
	return fmt.Sprintf("%+v", m)
}

// asked holds what Parse tells of bytes against a scan of them, and tells what it ought to be.
func asked(t *testing.T, b []byte) api.Errno {
	t.Helper()
	var want api.Message
	fault := frameFault(b)
	if fault == api.OK {
		s := &scan{b[4 : len(b)-4], true}
		want = s.message()
		if !s.ok || message.Right(want) != api.OK {
			want, fault = api.Message{}, api.ErrForm
		}
	}
	before := bytes.Clone(b)
	got, err := message.Parse(b)
	if err != fault || !same(got, want) {
		t.Fatalf("Parse(%v) is %s, error %d, not %s, error %d", b[:min(len(b), 200)], brief(got), err, brief(want), fault)
	}
	if !bytes.Equal(b, before) {
		t.Fatalf("Parse changes its bytes")
	}
	return fault
}

func TestExampleP14_1(t *testing.T) {
	for _, c := range []struct {
		m    api.Message
		want []byte
	}{
		{api.Message{Kind: api.MsgDigest, To: 1}, []byte{20, 0, 0, 177, 1, 0, 1, 0, 0, 0, 0, 0, 0, 0, 0, 0, 0, 0, 0, 0, 0, 0, 0, 0, 42, 22, 224, 133}},
		{api.Message{Kind: api.MsgDelta, From: 15, To: 2}, []byte{20, 0, 0, 177, 2, 15, 2, 0, 0, 0, 0, 0, 0, 0, 0, 0, 0, 0, 0, 0, 0, 0, 0, 0, 76, 16, 80, 131}},
	} {
		b, err := message.Bytes(c.m)
		if err != api.OK || len(b) != 28 || !bytes.Equal(b, c.want) {
			t.Errorf("the bytes of %+v are %v, error %d", c.m, b, err)
		}
		if m, err := message.Parse(c.want); err != api.OK || !same(m, c.m) {
			t.Errorf("%v is %+v, error %d", c.want, m, err)
		}
	}
}

// TestBytesOfSomeP14_1 writes a small message's payload down.
func TestBytesOfSomeP14_1(t *testing.T) {
	m := api.Message{
		Kind: api.MsgDelta, From: 3, To: 14,
		Known: api.Vector{1, 300, 15: 2},
		Events: []api.Event{
			event(1, 200, api.OpAdd, elems()[4], api.Value{}),
			{
				Dot: api.Dot{Replica: 15, Count: 2}, Past: api.Vector{3: 128, 15: 1}, Op: api.OpSet,
				Elem: api.Elem{Kind: api.ElemProp, A: "a", D: "d"}, Value: text("hi"),
			},
		},
	}
	want := framed(slices.Concat(
		[]byte{2, 3, 14, 1, 172, 2, 0, 0, 0, 0, 0, 0, 0, 0, 0, 0, 0, 0, 0, 2, 2},
		[]byte{1, 200, 1, 0, 199, 1, 0, 0, 0, 0, 0, 0, 0, 0, 0, 0, 0, 0, 0, 0, 1, 3, 1, 'a', 1, 'b', 1, 'K', 0, 0, 0, 0},
		[]byte{15, 2, 0, 0, 0, 128, 1, 0, 0, 0, 0, 0, 0, 0, 0, 0, 0, 0, 1, 3, 4, 1, 'a', 0, 0, 1, 'd', 3, 0, 2, 'h', 'i'},
	))
	if b, err := message.Bytes(m); err != api.OK || !bytes.Equal(b, want) {
		t.Errorf("the bytes are %v, error %d, not %v", b, err, want)
	}
	if got, err := message.Parse(want); err != api.OK || !same(got, m) {
		t.Errorf("read is %+v, error %d", got, err)
	}
}

func TestBytesP14_1(t *testing.T) {
	for name, m := range right() {
		before := copied(m)
		if b, err := message.Bytes(m); err != api.OK || !bytes.Equal(b, laid(m)) {
			t.Errorf("the %d bytes of %s aren't as told, error %d", len(b), name, err)
		}
		if !same(m, before) {
			t.Errorf("Bytes changes %s", name)
		}
	}
	for _, l := range []map[string]api.Message{wrong(), unlaid()} {
		for name, m := range l {
			if b, err := message.Bytes(m); err != api.ErrArg || len(b) != 0 {
				t.Errorf("Bytes of %s tells %d bytes, error %d", name, len(b), err)
			}
		}
	}
}

func TestReadOfBytesP14_2(t *testing.T) {
	for name, m := range right() {
		b, err := message.Bytes(m)
		got, fault := message.Parse(b)
		if err != api.OK || fault != api.OK || !same(got, m) || !message.Same(got, m) {
			t.Errorf("%s is read otherwise, errors %d, %d", name, err, fault)
		}
	}
}

// some is a message of no pattern that may be.
func some(r *rand.Rand) api.Message {
	counts := []int{0, 1, 2, 127, 128, 300, 16383, 16384, api.MaxCount - 1, api.MaxCount}
	m := api.Message{Kind: 1 + r.Intn(2), From: r.Intn(16), Known: vectorOf(1)}
	m.To = (m.From + 1 + r.Intn(15)) % 16
	for i := range m.Known {
		m.Known[i] = counts[r.Intn(len(counts))]
	}
	if m.Kind == api.MsgDigest {
		return m
	}
	for range r.Intn(40) {
		e := api.Event{Dot: api.Dot{Replica: r.Intn(16)}, Op: 1 + r.Intn(2), Elem: elems()[r.Intn(len(elems()))]}
		known := m.Known[e.Dot.Replica]
		if known == 0 {
			continue
		}
		e.Dot.Count = max(1, known-r.Intn(3))
		for i := range e.Past {
			e.Past[i] = counts[r.Intn(len(counts))]
		}
		e.Past[e.Dot.Replica] = e.Dot.Count - 1
		if e.Elem.Kind >= api.ElemProp {
			e.Op += 2
		}
		if e.Op == api.OpSet {
			e.Value = []api.Value{yes(), number(r.Intn(1000) - 500), number(-api.MaxNum), text("it's"), text("")}[r.Intn(5)]
		}
		m.Events = append(m.Events, e)
	}
	return m
}

func TestReadOfSomeP14_2(t *testing.T) {
	r := rand.New(rand.NewSource(14))
	for range 5000 {
		m := some(r)
		b, err := message.Bytes(m)
		got, fault := message.Parse(b)
		if err != api.OK || fault != api.OK || !same(got, m) || !bytes.Equal(b, laid(m)) {
			t.Fatalf("%+v is read as %+v, errors %d, %d", m, got, err, fault)
		}
	}
}

// TestTurnedP14_2 turns each byte of messages in each way: nothing is read.
func TestTurnedP14_2(t *testing.T) {
	l := right()
	long := l["the most"]
	delete(l, "the most")
	delete(l, "an event less than the most")
	for _, name := range slices.Sorted(maps.Keys(l)) {
		b := laid(l[name])
		for i := range b {
			for by := 1; by < 256; by++ {
				b[i] ^= byte(by)
				if m, err := message.Parse(b); err != api.ErrCheck || !same(m, api.Message{}) {
					t.Fatalf("Parse of %s, byte %d turned by %d, is %+v, error %d", name, i, by, m, err)
				}
				b[i] ^= byte(by)
			}
		}
	}
	r := rand.New(rand.NewSource(41))
	b := laid(long)
	for range 500 {
		i, by := r.Intn(len(b)), byte(1+r.Intn(255))
		b[i] ^= by
		if m, err := message.Parse(b); err != api.ErrCheck || !same(m, api.Message{}) {
			t.Fatalf("Parse of the most, byte %d turned by %d, is %s, error %d", i, by, brief(m), err)
		}
		b[i] ^= by
	}
}

// small are messages, right ones and wrong ones, that are cut and turned in many ways.
func small() map[string]api.Message {
	l := map[string]api.Message{}
	for _, all := range []map[string]api.Message{right(), wrong()} {
		for name, m := range all {
			if len(payload(m)) < 2000 {
				l[name] = m
			}
		}
	}
	return l
}

// TestCutP14_1: with any number of bytes less, or some more, it isn't the bytes of a message, whether that is told by the frame or not.
func TestCutP14_1(t *testing.T) {
	for name, m := range small() {
		b, p := laid(m), payload(m)
		for cut := range b {
			if asked(t, b[:cut]) != api.ErrForm {
				t.Fatalf("%d bytes of %s are a message's", cut, name)
			}
		}
		for cut := range p {
			if asked(t, framed(p[:cut])) != api.ErrForm {
				t.Fatalf("%d bytes of the payload of %s are a message's", cut, name)
			}
		}
		for _, more := range [][]byte{{0}, {1}, {128}, {255}, make([]byte, 28), p, b} {
			if asked(t, slices.Concat(b, more)) != api.ErrForm {
				t.Fatalf("those of %s, and %v behind, are a message's", name, more)
			}
			if asked(t, framed(slices.Concat(p, more))) != api.ErrForm {
				t.Fatalf("the payload of %s, and %v behind, is a message's", name, more)
			}
		}
	}
}

// TestParseFrameP14_1: what layer 4 tells of bytes is told, whatever their payload is.
func TestParseFrameP14_1(t *testing.T) {
	whole := laid(digest())
	head := func(n int) []byte { return framed(make([]byte, n))[:4] }
	for _, c := range []struct {
		name string
		b    []byte
		want api.Errno
	}{
		{"nil", nil, api.ErrForm},
		{"nothing", []byte{}, api.ErrForm},
		{"three bytes", []byte{0, 0, 0}, api.ErrForm},
		{"four of 0", make([]byte, 4), api.ErrCheck},
		{"28 of 0", make([]byte, 28), api.ErrCheck},
		{"a frame's head", head(20), api.ErrForm},
		{"the head of the longest", head(api.MaxDisk), api.ErrForm},
		{"that of one longer", head(api.MaxDisk + 1), api.ErrLong},
		{"one longer, whole", framed(make([]byte, api.MaxDisk+1)), api.ErrLong},
		{"the longest, whole", framed(make([]byte, api.MaxDisk)), api.ErrForm},
		{"the longest, and a byte behind", append(framed(make([]byte, api.MaxDisk)), 0), api.ErrForm},
		{"the frame of nothing", framed(nil), api.ErrForm},
		{"a payload without its frame", payload(digest()), api.ErrCheck},
		{"a frame in a frame", framed(whole), api.ErrForm},
		{"a message twice", slices.Concat(whole, whole), api.ErrForm},
		{"another sum", append(bytes.Clone(whole[:len(whole)-4]), 1, 2, 3, 4), api.ErrCheck},
		{"another sum, and a byte behind", append(bytes.Clone(whole[:len(whole)-4]), 1, 2, 3, 4, 5), api.ErrCheck},
		{"a payload that isn't as told, another sum", append(framed([]byte{9})[:5], 1, 2, 3, 4), api.ErrCheck},
	} {
		if got := asked(t, c.b); got != c.want {
			t.Errorf("Parse of %s is %d", c.name, got)
		}
	}
}

// TestParseMayNotBeP14_1: bytes of a message that may not be are refused.
func TestParseMayNotBeP14_1(t *testing.T) {
	for _, l := range []map[string]api.Message{wrong(), unlaid()} {
		for name, m := range l {
			if got := asked(t, laid(m)); got != api.ErrForm {
				t.Errorf("Parse of %s is %d", name, got)
			}
		}
	}
}

// TestParseNoFormP14_1 puts each number and text in another way, or leaves it out.
func TestParseNoFormP14_1(t *testing.T) {
	long := bytes.Repeat([]byte{255}, 9)
	for _, m := range []api.Message{digest(), delta()} {
		l := parts(m)
		for i := range l {
			for _, w := range [][]byte{nil, {128}, {133, 0}, {128, 128, 0}, long, append(bytes.Repeat([]byte{128}, 8), 64), append(bytes.Repeat([]byte{128}, 9), 1)} {
				with := slices.Clone(l)
				with[i] = w
				// One byte that goes on may go on into the next part, and so be the form of another message.
				if got := asked(t, framed(bytes.Join(with, nil))); got == api.OK || len(w) > 1 && got != api.ErrForm {
					t.Errorf("Parse with %v as part %d is %d", w, i, got)
				}
			}
		}
	}
}

// TestParseOfCountsP14_1: how many events there are is held against those that there are, however great it is.
func TestParseOfCountsP14_1(t *testing.T) {
	head := parts(delta())[:19]
	one := bytes.Join(eventParts(delta().Events[1]), nil)
	there := []int{0, 1, 2, mostEvents, mostEvents + 1}
	for _, n := range []int{0, 1, 2, 3, 127, 128, mostEvents - 1, mostEvents, mostEvents + 1, 256, math.MaxInt32, 1 << 40, 1<<62 - 1} {
		for _, size := range there {
			want := api.ErrForm
			if n == size && n <= mostEvents {
				want = api.OK
			}
			b := slices.Concat(bytes.Join(head, nil), numberBytes(n), bytes.Repeat(one, size))
			if got := asked(t, framed(b)); got != want {
				t.Errorf("Parse of %d events, of which %d are there, is %d", n, size, got)
			}
		}
	}
	// A digest has the number, too.
	if got := asked(t, framed(payload(digest())[:len(payload(digest()))-1])); got != api.ErrForm {
		t.Errorf("Parse of a digest that doesn't tell how many events it has is %d", got)
	}
}

// TestParseOfOthersP14_1 turns, drops and doubles bytes of payloads, frames them anew, and holds what is told against a scan.
func TestParseOfOthersP14_1(t *testing.T) {
	r := rand.New(rand.NewSource(21))
	seen := map[api.Errno]int{}
	for _, m := range []api.Message{digest(), delta()} {
		p := payload(m)
		for i := range p {
			for by := range 256 {
				turned := bytes.Clone(p)
				turned[i] ^= byte(by)
				seen[asked(t, framed(turned))]++
			}
		}
	}
	l := small()
	for _, name := range slices.Sorted(maps.Keys(l)) {
		p := payload(l[name])
		for range 500 {
			some := bytes.Clone(p)
			for range 1 + r.Intn(3) {
				if at := r.Intn(len(some)); r.Intn(3) == 0 {
					some = slices.Delete(some, at, at+1)
				} else {
					some = slices.Insert(some, at, []byte{0, 1, 2, 5, 127, 128, 255, byte(r.Intn(256))}[r.Intn(8)])
				}
			}
			seen[asked(t, framed(some))]++
		}
	}
	if seen[api.OK] < 100 || seen[api.ErrForm] < 100 {
		t.Errorf("so many were told: %v", seen)
	}
}

// TestSharesNothingP14_1: what is done to an answer changes no other one, nor what was handed in, its room behind it neither.
func TestSharesNothingP14_1(t *testing.T) {
	m, want := delta(), delta()
	room := append(m.Events, api.Event{Op: 9})
	m.Events = room[:len(want.Events)]
	b, _ := message.Bytes(m)
	clear(b)
	b, _ = message.Bytes(m)
	other, _ := message.Bytes(m)
	clear(other)
	if !same(m, want) || room[len(want.Events)] != (api.Event{Op: 9}) || !bytes.Equal(b, laid(want)) {
		t.Error("Bytes shares memory")
	}
	clear(m.Events)
	if !bytes.Equal(b, laid(want)) {
		t.Error("Bytes shares memory with a message")
	}
	one, _ := message.Parse(b)
	two, _ := message.Parse(b)
	clear(b)
	if !same(one, want) || !same(two, want) {
		t.Error("Parse shares memory with its bytes")
	}
	clear(one.Events)
	_ = append(one.Events, api.Event{Op: 9})
	if !same(two, want) {
		t.Error("two answers of Parse share memory")
	}
}

// TestNoPanicP5 asks all calls at arguments of all sorts: a panic fails it, and so does what doesn't end.
func TestNoPanicP5(t *testing.T) {
	r := rand.New(rand.NewSource(5))
	nums := []int{math.MinInt, -1 << 62, -1, 0, 1, 2, 3, 4, 5, 6, 15, 16, api.MaxCount, api.MaxCount + 1, api.MaxNum, 1 << 62, math.MaxInt}
	says := []string{"", "a", "K", "a>K>b", "a b", "\x00", "\xff\xfe", "é", strings.Repeat("n", 17), strings.Repeat("x", 65), strings.Repeat("z", 1<<12)}
	num := func() int { return nums[r.Intn(len(nums))] }
	say := func() string { return says[r.Intn(len(says))] }
	vec := func() api.Vector {
		v := vectorOf(api.MaxCount)
		for i := range v {
			if r.Intn(9) == 0 {
				v[i] = num()
			}
		}
		return v
	}
	last := api.Message{}
	for range 20000 {
		m := some(r)
		for _, n := range []*int{&m.Kind, &m.From, &m.To} {
			if r.Intn(3) == 0 {
				*n = num()
			}
		}
		if r.Intn(3) == 0 {
			m.Known = vec()
		}
		for range r.Intn(3) {
			e := api.Event{Dot: api.Dot{Replica: num(), Count: num()}, Past: vec(), Op: num()}
			e.Elem = api.Elem{Kind: num(), A: say(), B: say(), C: say(), D: say()}
			e.Value = api.Value{Kind: num(), Num: num(), Text: say()}
			m.Events = append(m.Events, e)
		}
		b, err := message.Bytes(m)
		if err != message.Right(m) || (err == api.OK) != (len(b) > 0) {
			t.Fatalf("Bytes of %+v tells %d bytes, error %d", m, len(b), err)
		}
		if message.Same(m, last) != same(m, last) || !message.Same(m, copied(m)) {
			t.Fatalf("Same of %+v and %+v is wrong", m, last)
		}
		asked(t, laid(m))
		loose := make([]byte, r.Intn(60))
		for i := range loose {
			loose[i] = byte(r.Intn(256) & (r.Intn(2) * 255))
		}
		asked(t, loose)
		asked(t, framed(loose))
		last = m
	}
}
