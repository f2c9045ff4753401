package event_test

import (
	"bytes"
	"encoding/binary"
	"math"
	"math/rand"
	"slices"
	"strings"
	"testing"

	"hedgerow/api"
	"hedgerow/event"
	"hedgerow/num"
)

// scan goes over bytes as the chapters tell, by another's hand.
type scan struct {
	b  []byte
	ok bool
}

// num is the next number.
func (s *scan) num() int {
	u, size := binary.Uvarint(s.b)
	if !s.ok || size <= 0 || u > 1<<62-1 || !bytes.Equal(s.b[:size], binary.AppendUvarint(nil, u)) {
		s.ok = false
		return 0
	}
	s.b = s.b[size:]
	return int(u)
}

// signed is the next signed number.
func (s *scan) signed() int {
	u := s.num()
	n := u / 2
	if u%2 == 1 {
		n = -n - 1
	}
	s.ok = s.ok && n >= -1<<60 && n <= 1<<60
	return n
}

// text is the next text.
func (s *scan) text() string {
	n := s.num()
	if !s.ok || n > len(s.b) {
		s.ok = false
		return ""
	}
	said := string(s.b[:n])
	s.b = s.b[n:]
	return said
}

// event is the next event, whatever it is.
func (s *scan) event() api.Event {
	var e api.Event
	e.Dot.Replica = s.num()
	e.Dot.Count = s.num()
	for i := range e.Past {
		e.Past[i] = s.num()
	}
	e.Op = s.num()
	e.Elem.Kind = s.num()
	for _, name := range []*string{&e.Elem.A, &e.Elem.B, &e.Elem.C, &e.Elem.D} {
		*name = s.text()
	}
	e.Value.Kind = s.num()
	e.Value.Num = s.signed()
	e.Value.Text = s.text()
	return e
}

// asked holds what Parse and Read tell of bytes against a scan of them: what Parse ought to tell.
func asked(t *testing.T, b []byte) api.Errno {
	t.Helper()
	s := &scan{b, true}
	e := s.event()
	want := api.OK
	switch {
	case !s.ok || len(s.b) > 0:
		want = api.ErrForm
	case event.Right(e) != api.OK:
		want = api.ErrArg
	}
	got, err := event.Parse(b)
	if err != want || err == api.OK && got != e || err != api.OK && got != (api.Event{}) {
		t.Fatalf("Parse(%v) is %+v, error %d, not %+v, error %d", b, got, err, e, want)
	}
	right := s.ok && event.Right(e) == api.OK
	r := num.Read(b)
	read, ok := event.Read(r)
	if ok != right || ok && (read != e || r.Fail() || r.Left() != len(s.b)) || !ok && read != (api.Event{}) {
		t.Fatalf("Read of %v is %+v, %v, not %+v, %v", b, read, ok, e, right)
	}
	return want
}

// kinds are events that may be: of each Op, each kind of element, each kind of value.
func kinds() []api.Event {
	var l []api.Event
	for c, right := range changes() {
		if right {
			l = append(l, fifth(c))
		}
	}
	return l
}

func TestReadOfBytesP6_2(t *testing.T) {
	ops := map[[3]int]bool{}
	for _, e := range kinds() {
		ops[[3]int{e.Op, e.Elem.Kind, e.Value.Kind}] = true
		b, err := event.Bytes(e)
		if err != api.OK {
			t.Fatalf("Bytes of %+v: error %d", e, err)
		}
		if got, err := event.Parse(b); err != api.OK || got != e {
			t.Fatalf("Parse of the bytes of %+v is %+v, error %d", e, got, err)
		}
		r := num.Read(b)
		if got, ok := event.Read(r); !ok || got != e || !r.Done() {
			t.Fatalf("Read of the bytes of %+v is %+v, %v, %d left", e, got, ok, r.Left())
		}
	}
	// Six without a value, two of OpSet with one of three kinds, two of OpClear.
	if len(ops) != 14 {
		t.Errorf("%d kinds of events were read", len(ops))
	}
}

// TestReadOfDotsP6_2 reads events of dots and Pasts at all edges.
func TestReadOfDotsP6_2(t *testing.T) {
	r := rand.New(rand.NewSource(6))
	counts := []int{1, 2, 127, 128, 129, 16384, 16385, api.MaxCount - 1, api.MaxCount}
	for replica := range api.MaxReplicas {
		for _, count := range counts {
			for _, c := range []api.Change{node, label, edge, prop, trait} {
				e := event.Make(api.Dot{Replica: replica, Count: count}, api.Vector{}, c)
				for i := range e.Past {
					e.Past[i] = counts[r.Intn(len(counts))] - r.Intn(2)
				}
				e.Past[replica] = count - 1
				b, err := event.Bytes(e)
				got, fault := event.Parse(b)
				if err != api.OK || fault != api.OK || got != e || !bytes.Equal(b, laid(e)) {
					t.Fatalf("%+v is read as %+v, errors %d, %d", e, got, err, fault)
				}
			}
		}
	}
}

// TestReadInRowP6_1 reads events one behind the other, with bytes of another kind between.
func TestReadInRowP6_1(t *testing.T) {
	var b []byte
	l := kinds()
	for i, e := range l {
		b = num.Put(event.Put(b, e), i)
	}
	r := num.Read(b)
	left := len(b)
	for i, e := range l {
		left -= len(laid(e)) + len(number(i))
		if got, ok := event.Read(r); !ok || got != e || r.Num(math.MaxInt) != i || r.Left() != left {
			t.Fatalf("event %d is read as %+v, %v, %d left, not %d", i, got, ok, r.Left(), left)
		}
	}
	if got, ok := event.Read(r); ok || got != (api.Event{}) {
		t.Errorf("behind all is %+v, %v", got, ok)
	}
}

func TestReadNoneP6_1(t *testing.T) {
	failed := num.Read(append([]byte{128, 0}, laid(fifth(node))...))
	failed.Num(9)
	for name, r := range map[string]*num.Reader{"no reader": nil, "a reader of nothing": num.Read(nil), "a reader that failed": failed} {
		if e, ok := event.Read(r); ok || e != (api.Event{}) {
			t.Errorf("of %s the next event is %+v, %v", name, e, ok)
		}
	}
	for name, e := range broken() {
		for _, more := range [][]byte{nil, laid(fifth(node)), {0}} {
			if got, ok := event.Read(num.Read(append(laid(e), more...))); ok || got != (api.Event{}) {
				t.Errorf("Read of %s is %+v, %v", name, got, ok)
			}
		}
	}
	for name, e := range unlaid() {
		if got, ok := event.Read(num.Read(laid(e))); ok || got != (api.Event{}) {
			t.Errorf("Read of %s is %+v, %v", name, got, ok)
		}
	}
}

// TestCutP6_1: with any number of bytes less, or one more, it isn't the bytes of one event, whether that may be or not.
func TestCutP6_1(t *testing.T) {
	l := kinds()
	for _, e := range broken() {
		if len(e.Elem.A) < 100 {
			l = append(l, e)
		}
	}
	for _, e := range l {
		b := laid(e)
		for cut := range b {
			if asked(t, b[:cut]) != api.ErrForm {
				t.Fatalf("%d bytes of %v are an event's", cut, b)
			}
		}
		for _, more := range [][]byte{{0}, {1}, {128}, {255}, make([]byte, 27), b} {
			if asked(t, slices.Concat(b, more)) != api.ErrForm {
				t.Fatalf("%v, and %v behind, are an event's", b, more)
			}
		}
	}
	for _, b := range [][]byte{nil, {}, {0}, make([]byte, 26), make([]byte, 28)} {
		if asked(t, b) != api.ErrForm {
			t.Errorf("%v are an event's", b)
		}
	}
}

// TestParseMayNotBeP6_1: bytes of one event that may not be are another fault than bytes of none.
func TestParseMayNotBeP6_1(t *testing.T) {
	if asked(t, make([]byte, 27)) != api.ErrArg {
		t.Error("the bytes of an event of nothing aren't told as such")
	}
	for name, e := range broken() {
		if got := asked(t, laid(e)); got != api.ErrArg {
			t.Errorf("Parse of %s is %d", name, got)
		}
	}
	for c, right := range changes() {
		if e := fifth(c); c.Op >= 0 && c.Elem.Kind >= 0 && c.Value.Kind >= 0 && c.Value.Num > -1<<60 {
			want := told(right)
			if c.Op > 1<<62-1 || c.Elem.Kind > 1<<62-1 {
				want = api.ErrForm
			}
			if got := asked(t, laid(e)); got != want {
				t.Errorf("Parse of the bytes of %+v is %d", c, got)
			}
		}
	}
	for name, e := range changed(map[string]func(*api.Event){
		"the greatest replica":        func(e *api.Event) { e.Dot.Replica = 1<<62 - 1 },
		"the greatest Count":          func(e *api.Event) { e.Dot.Count = 1<<62 - 1 },
		"the greatest Past":           func(e *api.Event) { e.Past[7] = 1<<62 - 1 },
		"the greatest Op":             func(e *api.Event) { e.Op = 1<<62 - 1 },
		"the greatest kind":           func(e *api.Event) { e.Elem.Kind = 1<<62 - 1 },
		"the greatest kind of values": func(e *api.Event) { e.Value.Kind = 1<<62 - 1 },
		"an Int of 2^60":              func(e *api.Event) { e.Value.Num = 1 << 60 },
		"an Int of -2^60":             func(e *api.Event) { e.Value.Num = -1 << 60 },
		"a long text":                 func(e *api.Event) { e.Value.Text = strings.Repeat("\xff", 1<<16) },
		"long names": func(e *api.Event) {
			e.Elem.B, e.Elem.C, e.Elem.D = "bbbbbbbbbbbbbbbbb", strings.Repeat("\x00", 1000), ""
		},
	}) {
		if got := asked(t, laid(e)); got != api.ErrArg {
			t.Errorf("Parse of %s is %d", name, got)
		}
	}
}

// TestParseNoFormP6_1: numbers that aren't laid as they ought to be are those of no event.
func TestParseNoFormP6_1(t *testing.T) {
	for name, e := range unlaid() {
		if got := asked(t, laid(e)); got != api.ErrForm {
			t.Errorf("Parse of %s is %d", name, got)
		}
	}
	// Each of the parts is put in another way, or left out; part 20 to 23 and 26 are texts.
	wrong := [][]byte{nil, {128}, {133, 0}, {128, 128, 0}, bytes.Repeat([]byte{255}, 9), append(bytes.Repeat([]byte{128}, 8), 64), append(bytes.Repeat([]byte{128}, 9), 1)}
	for i, whole := range parts(fifth(prop)) {
		for _, w := range wrong {
			l := parts(fifth(prop))
			l[i] = w
			if 20 <= i && i <= 23 || i == 26 {
				l[i] = append(bytes.Clone(w), whole[1:]...)
			}
			if got := asked(t, bytes.Join(l, nil)); got == api.OK || w != nil && got != api.ErrForm {
				t.Errorf("Parse with %v as part %d is %d", w, i, got)
			}
		}
	}
	// Signed numbers end earlier than others.
	for _, n := range []int{1<<61 + 1, 1<<61 + 2, 1<<62 - 1} {
		l := parts(fifth(prop))
		l[25] = number(n)
		if got := asked(t, bytes.Join(l, nil)); got != api.ErrForm {
			t.Errorf("Parse with the signed number of %d is %d", n, got)
		}
	}
	// A text's length goes as far as the bytes that are left, and no farther.
	l := parts(fifth(prop))
	l[26] = []byte{1}
	if got := asked(t, bytes.Join(l, nil)); got != api.ErrForm {
		t.Errorf("Parse with a length of 1 at the end is %d", got)
	}
}

// TestParseOfTurnedP6_1 turns, drops and doubles bytes of events, and holds what is told against a scan.
func TestParseOfTurnedP6_1(t *testing.T) {
	r := rand.New(rand.NewSource(7))
	seen := map[api.Errno]int{}
	for _, c := range []api.Change{node, label, edge, prop, trait} {
		b := laid(fifth(c))
		for i := range b {
			for by := range 256 {
				turned := bytes.Clone(b)
				turned[i] ^= byte(by)
				seen[asked(t, turned)]++
			}
		}
		for range 20000 {
			some := bytes.Clone(b)
			for range 1 + r.Intn(3) {
				if at := r.Intn(len(some)); r.Intn(3) == 0 {
					some = slices.Delete(some, at, at+1)
				} else {
					some = slices.Insert(some, at, []byte{0, 1, 2, 5, 127, 128, 255, byte(r.Intn(256))}[r.Intn(8)])
				}
			}
			seen[asked(t, some)]++
		}
	}
	if seen[api.OK] < 100 || seen[api.ErrForm] < 100 || seen[api.ErrArg] < 100 {
		t.Errorf("so many were told: %v", seen)
	}
}
