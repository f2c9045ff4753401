package snap_test

import (
	"bytes"
	"maps"
	"math"
	"math/rand"
	"slices"
	"strings"
	"testing"

	"hedgerow/api"
	"hedgerow/snap"
	"hedgerow/store"
)

// numberBytes are a number's, by the sentence of layer 2; none, if it has none.
func numberBytes(n int) []byte {
	switch {
	case n < 0 || n > 1<<62-1:
		return nil
	case n > 127:
		return append([]byte{byte(n&127) + 128}, numberBytes(n>>7)...)
	}
	return []byte{byte(n)}
}

// signedBytes are a signed number's.
func signedBytes(n int) []byte {
	switch {
	case n < -1<<60 || n > 1<<60:
		return nil
	case n < 0:
		return numberBytes(-2*n - 1)
	}
	return numberBytes(2 * n)
}

// textBytes are a text's.
func textBytes(s string) []byte { return append(numberBytes(len(s)), s...) }

// elemParts, valueParts and eventParts are the bytes of one each, number by number, text by text.
func elemParts(e api.Elem) [][]byte {
	return [][]byte{numberBytes(e.Kind), textBytes(e.A), textBytes(e.B), textBytes(e.C), textBytes(e.D)}
}

func valueParts(v api.Value) [][]byte {
	return [][]byte{numberBytes(v.Kind), signedBytes(v.Num), textBytes(v.Text)}
}

func dotParts(d api.Dot) [][]byte { return [][]byte{numberBytes(d.Replica), numberBytes(d.Count)} }

func vectorParts(v api.Vector) [][]byte {
	var l [][]byte
	for _, n := range v {
		l = append(l, numberBytes(n))
	}
	return l
}

func eventParts(e api.Event) [][]byte {
	l := append(dotParts(e.Dot), vectorParts(e.Past)...)
	l = append(append(l, numberBytes(e.Op)), elemParts(e.Elem)...)
	return append(l, valueParts(e.Value)...)
}

// parts are a snapshot's bytes by the chapter's sentence, number by number, text by text.
func parts(s snap.Snap) [][]byte {
	l := append(vectorParts(s.Known), numberBytes(len(s.Items)))
	for _, i := range s.Items {
		l = append(append(l, elemParts(i.Elem)...), numberBytes(len(i.Entries)))
		for _, x := range i.Entries {
			l = append(append(l, dotParts(x.Dot)...), valueParts(x.Value)...)
		}
	}
	l = append(l, numberBytes(len(s.Events)))
	for _, e := range s.Events {
		l = append(l, eventParts(e)...)
	}
	return l
}

// laid is a snapshot's bytes, whatever it is.
func laid(s snap.Snap) []byte { return bytes.Join(parts(s), nil) }

// scan goes over bytes by the chapters' sentences; ok: it is a snapshot's bytes so far.
type scan struct {
	b  []byte
	ok bool
}

func (s *scan) number() int {
	n := 0
	for i := 0; i < 9 && i < len(s.b); i++ {
		n |= int(s.b[i]&127) << (7 * i)
		if s.b[i] < 128 {
			s.ok = s.ok && bytes.Equal(numberBytes(n), s.b[:i+1])
			s.b = s.b[i+1:]
			return n
		}
	}
	s.ok = false
	return 0
}

func (s *scan) signed() int {
	n := s.number()
	if n > 1<<61 {
		s.ok = false
	}
	if n%2 == 1 {
		return -(n + 1) / 2
	}
	return n / 2
}

func (s *scan) text() string {
	n := s.number()
	if !s.ok || n > len(s.b) {
		s.ok = false
		return ""
	}
	says := string(s.b[:n])
	s.b = s.b[n:]
	return says
}

func (s *scan) vector() api.Vector {
	var v api.Vector
	for i := range v {
		v[i] = s.number()
	}
	return v
}

func (s *scan) dot() api.Dot {
	replica := s.number()
	return api.Dot{Replica: replica, Count: s.number()}
}

func (s *scan) elem() api.Elem {
	e := api.Elem{Kind: s.number()}
	for _, name := range []*string{&e.A, &e.B, &e.C, &e.D} {
		*name = s.text()
	}
	return e
}

func (s *scan) value() api.Value {
	v := api.Value{Kind: s.number()}
	v.Num = s.signed()
	v.Text = s.text()
	return v
}

func (s *scan) snap() snap.Snap {
	all := snap.Snap{Known: s.vector()}
	for n := s.number(); n > 0 && s.ok; n-- {
		i := store.Item{Elem: s.elem()}
		for m := s.number(); m > 0 && s.ok; m-- {
			x := store.Entry{Dot: s.dot()}
			x.Value = s.value()
			i.Entries = append(i.Entries, x)
		}
		all.Items = append(all.Items, i)
	}
	for n := s.number(); n > 0 && s.ok; n-- {
		e := api.Event{Dot: s.dot()}
		e.Past = s.vector()
		e.Op = s.number()
		e.Elem = s.elem()
		e.Value = s.value()
		all.Events = append(all.Events, e)
	}
	s.ok = s.ok && len(s.b) == 0
	return all
}

// asked holds what Parse tells of bytes against a scan of them, and tells what it ought to be.
func asked(t *testing.T, b []byte) api.Errno {
	t.Helper()
	s := &scan{b, true}
	want, fault := s.snap(), api.OK
	switch {
	case !s.ok:
		want, fault = snap.Snap{}, api.ErrForm
	case snap.Right(want) != api.OK:
		want, fault = snap.Snap{}, api.ErrArg
	}
	before := bytes.Clone(b)
	got, err := snap.Parse(b)
	if err != fault || !same(got, want) {
		t.Fatalf("Parse(%v) is %s, error %d, not %s, error %d", b[:min(len(b), 200)], brief(got), err, brief(want), fault)
	}
	if !bytes.Equal(b, before) {
		t.Fatalf("Parse changes its bytes")
	}
	return fault
}

func TestExampleP12_1(t *testing.T) {
	b, err := snap.Bytes(snap.Snap{})
	if err != api.OK || !bytes.Equal(b, make([]byte, 18)) {
		t.Errorf("the bytes of nothing are %v, error %d", b, err)
	}
	if s, err := snap.Parse(make([]byte, 18)); err != api.OK || !same(s, snap.Snap{}) {
		t.Errorf("18 bytes of 0 are %+v, error %d", s, err)
	}
}

// TestBytesOfSomeP12_1 writes a small snapshot's bytes down.
func TestBytesOfSomeP12_1(t *testing.T) {
	s := snap.Snap{
		Known: api.Vector{1, 300, 15: 2},
		Items: []store.Item{
			{Elem: api.Elem{Kind: api.ElemNode, A: "ab"}, Entries: []store.Entry{bare(0, 1), bare(1, 200)}},
			{Elem: api.Elem{Kind: api.ElemTrait, A: "a", B: "b", C: "c", D: "d"}, Entries: []store.Entry{valued(15, 2, number(-300))}},
		},
		Events: []api.Event{{
			Dot: dot(15, 2), Past: api.Vector{3: 128, 15: 1}, Op: api.OpSet,
			Elem: api.Elem{Kind: api.ElemProp, A: "a", D: "d"}, Value: text("hi"),
		}},
	}
	want := slices.Concat(
		[]byte{1, 172, 2, 0, 0, 0, 0, 0, 0, 0, 0, 0, 0, 0, 0, 0, 2},
		[]byte{2, 1, 2, 'a', 'b', 0, 0, 0, 2, 0, 1, 0, 0, 0, 1, 200, 1, 0, 0, 0},
		[]byte{5, 1, 'a', 1, 'b', 1, 'c', 1, 'd', 1, 15, 2, 2, 215, 4, 0},
		[]byte{1, 15, 2, 0, 0, 0, 128, 1, 0, 0, 0, 0, 0, 0, 0, 0, 0, 0, 0, 1, 3, 4, 1, 'a', 0, 0, 1, 'd', 3, 0, 2, 'h', 'i'},
	)
	if b, err := snap.Bytes(s); err != api.OK || !bytes.Equal(b, want) {
		t.Errorf("the bytes are %v, error %d, not %v", b, err, want)
	}
	if got, err := snap.Parse(want); err != api.OK || !same(got, s) {
		t.Errorf("read is %+v, error %d", got, err)
	}
}

func TestBytesP12_1(t *testing.T) {
	for name, s := range right() {
		before := copied(s)
		if b, err := snap.Bytes(s); err != api.OK || !bytes.Equal(b, laid(s)) {
			t.Errorf("the %d bytes of %s aren't as told, error %d", len(b), name, err)
		}
		if !same(s, before) {
			t.Errorf("Bytes changes %s", name)
		}
	}
	for _, l := range []map[string]snap.Snap{wrong(), unlaid()} {
		for name, s := range l {
			if b, err := snap.Bytes(s); err != api.ErrArg || len(b) != 0 {
				t.Errorf("Bytes of %s tells %d bytes, error %d", name, len(b), err)
			}
		}
	}
}

func TestReadOfBytesP12_2(t *testing.T) {
	for name, s := range right() {
		b, err := snap.Bytes(s)
		got, fault := snap.Parse(b)
		if err != api.OK || fault != api.OK || !same(got, s) || !snap.Same(got, s) {
			t.Errorf("%s is read otherwise, errors %d, %d", name, err, fault)
		}
	}
}

// history is a store of events of no pattern, the vector that knows them, and some of them.
func history(r *rand.Rand, size int) (*store.Store, api.Vector, []api.Event) {
	var known api.Vector
	var l []api.Event
	kept := store.New()
	for range size {
		e := api.Event{Elem: elems()[r.Intn(len(elems()))], Op: 1 + r.Intn(2), Past: known}
		for i := range e.Past {
			e.Past[i] -= r.Intn(2) * r.Intn(e.Past[i]+1)
		}
		replica := []int{0, 1, 15}[r.Intn(3)]
		e.Past[replica] = known[replica]
		known[replica]++
		e.Dot = dot(replica, known[replica])
		if e.Elem.Kind >= api.ElemProp {
			e.Op += 2
		}
		if e.Op == api.OpSet {
			e.Value = []api.Value{yes(), number(r.Intn(1000) - 500), text("it's"), text("")}[r.Intn(4)]
		}
		kept.Do(e)
		if r.Intn(3) == 0 {
			l = append(l, e)
		}
	}
	return kept, known, l
}

// TestReadOfStoresP12_2 reads what stores come to, and does on: a store that was read is as it was.
func TestReadOfStoresP12_2(t *testing.T) {
	r := rand.New(rand.NewSource(12))
	for size := range 400 {
		kept, known, l := history(r, size)
		s := snap.Snap{Known: known, Items: kept.All(), Events: l}
		b, err := snap.Bytes(s)
		got, fault := snap.Parse(b)
		if err != api.OK || fault != api.OK || !same(got, s) {
			t.Fatalf("a store of %d events is read otherwise, errors %d, %d", size, err, fault)
		}
		twin := snap.Store(got)
		known[7]++
		for _, e := range elems() {
			for _, op := range []int{api.OpRemove, api.OpClear} {
				next := api.Event{Dot: dot(7, known[7]), Past: known, Op: op, Elem: e}
				next.Past[7]--
				next.Past[0] /= 2
				if kept.Do(next) != twin.Do(next) {
					t.Fatalf("%+v comes to one store alone", next)
				}
			}
		}
		if !sameItems(kept.All(), twin.All()) {
			t.Fatalf("behind more a store of %d events is another one than that which was read", size)
		}
	}
}

// few are a few right snapshots, small ones.
func few() map[string]snap.Snap {
	l := right()
	delete(l, "the most of both")
	return l
}

// TestCutP12_1: with any number of bytes less, or some more, it isn't the bytes of a snapshot.
func TestCutP12_1(t *testing.T) {
	l := few()
	for name, s := range wrong() {
		if len(laid(s)) < 2000 {
			l[name] = s
		}
	}
	for name, s := range l {
		b := laid(s)
		for cut := range b {
			if asked(t, b[:cut]) != api.ErrForm {
				t.Fatalf("%d bytes of %s are a snapshot's", cut, name)
			}
		}
		for _, more := range [][]byte{{0}, {1}, {128}, {255}, make([]byte, 18), b} {
			if asked(t, slices.Concat(b, more)) != api.ErrForm {
				t.Fatalf("those of %s, and %v behind, are a snapshot's", name, more)
			}
		}
	}
	for _, b := range [][]byte{nil, {}, {0}, make([]byte, 17), make([]byte, 19)} {
		if asked(t, b) != api.ErrForm {
			t.Errorf("%v are a snapshot's", b)
		}
	}
}

// TestParseMayNotBeP12_1: bytes of a snapshot that may not be are another fault than bytes of none.
func TestParseMayNotBeP12_1(t *testing.T) {
	for name, s := range wrong() {
		if got := asked(t, laid(s)); got != api.ErrArg {
			t.Errorf("Parse of %s is %d", name, got)
		}
		// Where both apply, the form is named first.
		if got := asked(t, append(laid(s), 0)); got != api.ErrForm {
			t.Errorf("Parse of %s, with a byte behind, is %d", name, got)
		}
	}
	for name, s := range unlaid() {
		if got := asked(t, laid(s)); got == api.OK {
			t.Errorf("Parse of %s is %d", name, got)
		}
	}
	for name, s := range changed(map[string]func(*snap.Snap){
		"the greatest replica":        func(s *snap.Snap) { s.Items[0].Entries[0].Dot.Replica = 1<<62 - 1 },
		"the greatest Count":          func(s *snap.Snap) { s.Items[0].Entries[0].Dot.Count = 1<<62 - 1 },
		"the greatest kind of values": func(s *snap.Snap) { s.Items[0].Entries[0].Value.Kind = 1<<62 - 1 },
		"an Int of 2^60":              func(s *snap.Snap) { s.Items[4].Entries[8].Value.Num = 1 << 60 },
		"an Int of -2^60":             func(s *snap.Snap) { s.Items[4].Entries[8].Value.Num = -1 << 60 },
		"a long text":                 func(s *snap.Snap) { s.Items[4].Entries[12].Value.Text = strings.Repeat("\xff", 1<<16) },
		"an event's greatest Past":    func(s *snap.Snap) { s.Events[0].Past[15] = 1<<62 - 1 },
		"an event's greatest Op":      func(s *snap.Snap) { s.Events[0].Op = 1<<62 - 1 },
		"an event's long name":        func(s *snap.Snap) { s.Events[0].Elem.C = strings.Repeat("\x00", 1000) },
	}) {
		if got := asked(t, laid(s)); got != api.ErrArg {
			t.Errorf("Parse of %s is %d", name, got)
		}
	}
}

// TestParseNoFormP12_1 puts each number and text in another way, or leaves it out.
func TestParseNoFormP12_1(t *testing.T) {
	long := bytes.Repeat([]byte{255}, 9)
	l := parts(full())
	for i := range l {
		for _, w := range [][]byte{nil, {128}, {133, 0}, {128, 128, 0}, long, append(bytes.Repeat([]byte{128}, 8), 64), append(bytes.Repeat([]byte{128}, 9), 1)} {
			with := slices.Clone(l)
			with[i] = w
			// One byte that goes on may go on into the next part, and so be the form of another snapshot.
			if got := asked(t, bytes.Join(with, nil)); got == api.OK || len(w) > 1 && got != api.ErrForm {
				t.Errorf("Parse with %v as part %d is %d", w, i, got)
			}
		}
	}
}

// TestParseOfCountsP12_1: how many there are ends where the bytes do, however great it is.
func TestParseOfCountsP12_1(t *testing.T) {
	head := make([]byte, 16)
	elem := bytes.Join(elemParts(elems()[0]), nil)
	counts := []int{1, 2, 127, 128, mostItems, mostItems + 1, math.MaxInt32, 1 << 40, 1<<61 + 1, 1<<62 - 1}
	for _, n := range counts {
		for name, b := range map[string][]byte{
			"items":                     slices.Concat(head, numberBytes(n)),
			"items, of nothing":         slices.Concat(head, numberBytes(n), []byte{0}),
			"items, of which one is":    slices.Concat(head, numberBytes(n), elem, []byte{0}),
			"entries":                   slices.Concat(head, []byte{1}, elem, numberBytes(n)),
			"entries, of nothing":       slices.Concat(head, []byte{1}, elem, numberBytes(n), []byte{0}),
			"entries, of which one is":  slices.Concat(head, []byte{1}, elem, numberBytes(n), make([]byte, 5)),
			"events":                    slices.Concat(head, []byte{0}, numberBytes(n)),
			"events, of nothing":        slices.Concat(head, []byte{0}, numberBytes(n), []byte{0}),
			"events, of which one is":   slices.Concat(head, []byte{0}, numberBytes(n), make([]byte, 27)),
			"items, and 0 behind":       slices.Concat(head, numberBytes(n), make([]byte, 4)),
			"entries, and events of it": slices.Concat(head, []byte{1}, elem, numberBytes(n), numberBytes(n)),
		} {
			want := api.ErrForm
			if n == 1 && name == "events, of which one is" {
				want = api.ErrArg
			}
			if got := asked(t, b); got != want {
				t.Errorf("Parse of %d %s is %d", n, name, got)
			}
		}
	}
	// Of items that are all there, but too many, the form is right.
	if got := asked(t, slices.Concat(head, numberBytes(mostItems+1), make([]byte, 6*(mostItems+1)+1))); got != api.ErrArg {
		t.Errorf("Parse of an item too many is %d", got)
	}
}

// TestParseOfTurnedP12_1 turns, drops and doubles bytes of snapshots, and holds what is told against a scan.
func TestParseOfTurnedP12_1(t *testing.T) {
	r := rand.New(rand.NewSource(21))
	seen := map[api.Errno]int{}
	b := laid(full())
	for i := range b {
		for _, by := range []byte{0, 1, 2, 3, 4, 7, 8, 16, 32, 64, 127, 128, 129, 255, byte(r.Intn(256))} {
			turned := bytes.Clone(b)
			turned[i] ^= by
			seen[asked(t, turned)]++
		}
	}
	l := few()
	for _, name := range slices.Sorted(maps.Keys(l)) {
		b := laid(l[name])
		for range 1000 {
			some := bytes.Clone(b)
			for range 1 + r.Intn(3) {
				if at := r.Intn(len(some)); r.Intn(3) == 0 {
					some = slices.Delete(some, at, at+1)
				} else {
					some = slices.Insert(some, at, []byte{0, 1, 2, 5, 127, 128, 255, byte(r.Intn(256))}[r.Intn(8)])
				}
			}
			seen[asked(t, some)]++
		}
	}
	if seen[api.OK] < 100 || seen[api.ErrForm] < 100 || seen[api.ErrArg] < 100 {
		t.Errorf("so many were told: %v", seen)
	}
}

// TestSharesNothingP12_1: what is done to an answer changes no other one, nor what was handed in.
func TestSharesNothingP12_1(t *testing.T) {
	s, want := full(), full()
	b, _ := snap.Bytes(s)
	clear(b)
	b, _ = snap.Bytes(s)
	if !same(s, want) || !bytes.Equal(b, laid(want)) {
		t.Error("Bytes shares memory")
	}
	one, _ := snap.Parse(b)
	other, _ := snap.Parse(b)
	clear(b)
	for i := range one.Items {
		_ = append(one.Items[i].Entries, bare(9, 9))
		clear(one.Items[i].Entries)
	}
	clear(one.Items)
	_ = append(one.Events, api.Event{Op: 9})
	clear(one.Events)
	if !same(other, want) {
		t.Error("Parse shares memory")
	}
	for i := range other.Items {
		l := other.Items[i].Entries
		_ = append(l[:len(l):cap(l)], make([]store.Entry, cap(l)-len(l))...)
	}
	if !same(other, want) {
		t.Error("rows of one snapshot share memory")
	}
}

// TestNoPanicP5 asks all calls at arguments of all sorts: a panic fails it, and so does what doesn't end.
func TestNoPanicP5(t *testing.T) {
	r := rand.New(rand.NewSource(5))
	nums := []int{math.MinInt, -1 << 62, -1, 0, 1, 2, 3, 4, 5, 6, 15, 16, api.MaxCount, api.MaxCount + 1, api.MaxNum, 1 << 62, math.MaxInt}
	says := []string{"", "a", "K", "a>K>b", "a b", "\x00", "\xff\xfe", "é", strings.Repeat("n", 17), strings.Repeat("x", 65), strings.Repeat("z", 1<<12)}
	num := func() int { return nums[r.Intn(len(nums))] }
	say := func() string { return says[r.Intn(len(says))] }
	elem := func() api.Elem {
		if r.Intn(2) == 0 {
			return elems()[r.Intn(len(elems()))]
		}
		return api.Elem{Kind: num(), A: say(), B: say(), C: say(), D: say()}
	}
	val := func() api.Value { return api.Value{Kind: num(), Num: num(), Text: say()} }
	vec := func() api.Vector {
		v := vectorOf(api.MaxCount)
		for i := range v {
			if r.Intn(9) == 0 {
				v[i] = num()
			}
		}
		return v
	}
	last := snap.Snap{}
	for range 20000 {
		s := snap.Snap{Known: vec()}
		for range r.Intn(3) {
			i := store.Item{Elem: elem()}
			for range r.Intn(3) {
				i.Entries = append(i.Entries, valued(num(), num(), val()))
			}
			s.Items = append(s.Items, i)
		}
		for range r.Intn(3) {
			s.Events = append(s.Events, api.Event{Dot: dot(num(), num()), Past: vec(), Op: num(), Elem: elem(), Value: val()})
		}
		b, err := snap.Bytes(s)
		if err != snap.Right(s) || (err == api.OK) != (len(b) > 0) || snap.Store(s) == nil {
			t.Fatalf("Bytes of %+v tells %d bytes, error %d", s, len(b), err)
		}
		if snap.Same(s, last) != same(s, last) || !snap.Same(s, copied(s)) {
			t.Fatalf("Same of %+v and %+v is wrong", s, last)
		}
		asked(t, laid(s))
		some := make([]byte, r.Intn(60))
		for i := range some {
			some[i] = byte(r.Intn(256) & (r.Intn(2) * 255))
		}
		asked(t, some)
		last = s
	}
}
