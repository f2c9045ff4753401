package buffer_test

import (
	"math"
	"math/rand"
	"slices"
	"testing"

	"hedgerow/api"
	"hedgerow/buffer"
)

// dot is a dot.
func dot(replica, count int) api.Dot { return api.Dot{Replica: replica, Count: count} }

// event is one of a dot; what it does is nothing that a buffer asks for.
func event(replica, count int) api.Event {
	return api.Event{Dot: dot(replica, count), Op: api.OpAdd, Elem: api.Elem{Kind: api.ElemNode, A: "a"}}
}

// full is a vector of one number.
func full(n int) api.Vector {
	var v api.Vector
	for i := range v {
		v[i] = n
	}
	return v
}

// numbers are those at which something turns, rising, and beyond.
func numbers() []int {
	return []int{
		math.MinInt, -1 << 62, -api.MaxCount, -17, -16, -1, 0, 1, 2, 3, 14, 15, 16, 17,
		api.MaxCount - 1, api.MaxCount, api.MaxCount + 1, 1<<62 - 1, 1 << 62, 1<<62 + 1, math.MaxInt,
	}
}

// knows is layer 5's sentence on it.
func knows(v api.Vector, d api.Dot) bool {
	return d.Replica >= 0 && d.Replica <= 15 && d.Count >= 1 && d.Count <= 1<<20 && v[d.Replica] >= d.Count
}

// model keeps a buffer's peers, what they told, and all events that ever came and when, and works all else out by the chapter's sentences.
type model struct {
	n, self int
	peers   map[int]api.Vector
	events  []api.Event
}

func modelOf(n, self int) *model {
	m := &model{n: n, self: self, peers: map[int]api.Vector{}}
	for i := range n {
		if i != self {
			m.peers[i] = api.Vector{}
		}
	}
	return m
}

// each asks whether each peer is known to know a dot.
func (m *model) each(d api.Dot) bool {
	for _, known := range m.peers {
		if !knows(known, d) {
			return false
		}
	}
	return true
}

func (m *model) add(e api.Event) {
	if !m.each(e.Dot) {
		m.events = append(m.events, e)
	}
}

func (m *model) ack(peer int, v api.Vector) api.Errno {
	known, ok := m.peers[peer]
	if !ok {
		return api.ErrNone
	}
	for i := range known {
		if v[i] > known[i] {
			known[i] = v[i]
		}
	}
	m.peers[peer] = known
	var left []api.Event
	for _, e := range m.events {
		if !m.each(e.Dot) {
			left = append(left, e)
		}
	}
	m.events = left
	return api.OK
}

func (m *model) stable() api.Vector {
	stable := full(1 << 62)
	for _, known := range m.peers {
		for i, n := range known {
			if n < stable[i] {
				stable[i] = n
			}
		}
	}
	return stable
}

func (m *model) lacks(v api.Vector, most int) []api.Event {
	var l []api.Event
	for _, e := range m.events {
		if !knows(v, e.Dot) && len(l) < most {
			l = append(l, e)
		}
	}
	return l
}

// held holds all that a buffer answers against a model.
func held(t *testing.T, name string, b *buffer.Buffer, m *model) {
	t.Helper()
	if got := b.All(); !slices.Equal(got, m.events) || b.Len() != len(m.events) {
		t.Fatalf("%s: there are %d events, not %d: %+v", name, b.Len(), len(m.events), got)
	}
	if got := b.Stable(); got != m.stable() {
		t.Fatalf("%s: Stable is %v, not %v", name, got, m.stable())
	}
	for _, i := range append(numbers(), 4, 5, 6, 7, 8, 9, 10, 11, 12, 13) {
		want, peer := m.peers[i]
		if got, ok := b.Acked(i); ok != peer || got != want {
			t.Fatalf("%s: Acked of %d is %v, %v, not %v, %v", name, i, got, ok, want, peer)
		}
	}
	for _, v := range []api.Vector{{}, full(1), full(2), {0: 1, 1: 3}, full(math.MaxInt), full(-1)} {
		for _, most := range []int{math.MinInt, -1, 0, 1, 2, len(m.events) - 1, len(m.events), len(m.events) + 1, math.MaxInt} {
			if got := b.Lacks(v, most); !slices.Equal(got, m.lacks(v, most)) {
				t.Fatalf("%s: Lacks(%v, %d) is %+v, not %+v", name, v, most, got, m.lacks(v, most))
			}
		}
	}
}

func TestExampleP13_1(t *testing.T) {
	b := buffer.New(2, 0)
	b.Add(event(0, 1))
	if b.Len() != 1 || b.Ack(1, api.Vector{1}) != api.OK || b.Len() != 0 || len(b.All()) != 0 {
		t.Errorf("%d events are left: %+v", b.Len(), b.All())
	}
}

func TestNewP13_1(t *testing.T) {
	for _, n := range append(numbers(), 4, 5, 6, 7, 8, 9, 10, 11, 12, 13) {
		for _, self := range append(numbers(), n-1, n, n+1) {
			b := buffer.New(n, self)
			right := n >= 1 && n <= 16 && self >= 0 && self < n
			if (b != nil) != right {
				t.Errorf("New(%d, %d) is %v", n, self, b)
			}
			if right {
				held(t, "new", b, modelOf(n, self))
			}
		}
	}
}

// TestAloneP13_1: without peers each peer is known to know everything.
func TestAloneP13_1(t *testing.T) {
	b, m := buffer.New(1, 0), modelOf(1, 0)
	for _, e := range []api.Event{event(0, 1), event(0, api.MaxCount), event(1, 1), event(15, 9), event(0, 0), event(16, 1), event(-1, 1), event(0, math.MaxInt), {}} {
		b.Add(e)
		held(t, "alone", b, m)
	}
	if b.Stable() != full(1<<62) || b.Len() != 0 {
		t.Errorf("Stable is %v, Len %d", b.Stable(), b.Len())
	}
	for _, i := range numbers() {
		if err := b.Ack(i, full(7)); err != api.ErrNone {
			t.Errorf("Ack of %d is %d", i, err)
		}
	}
}

// TestAddP13_1: events come behind all, as often as they are added.
func TestAddP13_1(t *testing.T) {
	row := []api.Event{event(0, 2), event(0, 1), event(2, 1), event(1, 5), event(0, 1), event(2, 1), event(1, 4), event(9, 1), event(15, api.MaxCount)}
	for n := 2; n <= api.MaxReplicas; n++ {
		for self := range n {
			b, m := buffer.New(n, self), modelOf(n, self)
			for _, e := range row {
				b.Add(e)
				m.add(e)
			}
			held(t, "behind a row", b, m)
			if !slices.Equal(b.All(), row) {
				t.Fatalf("of %d, that of %d has %+v", n, self, b.All())
			}
		}
	}
}

// TestAddKnownP13_1: what each peer is known to know doesn't come, what all but one are known to know does.
func TestAddKnownP13_1(t *testing.T) {
	for n := 2; n <= api.MaxReplicas; n++ {
		for self := range n {
			b, m := buffer.New(n, self), modelOf(n, self)
			for peer := range n {
				b.Add(event(3, 4))
				m.add(event(3, 4))
				if got, want := b.Ack(peer, api.Vector{3: 4, 5: 9}), m.ack(peer, api.Vector{3: 4, 5: 9}); got != want {
					t.Fatalf("Ack of %d is %d, not %d", peer, got, want)
				}
				held(t, "behind an Ack", b, m)
			}
			for _, e := range []api.Event{event(3, 4), event(3, 1), event(5, 9)} {
				b.Add(e)
			}
			if b.Len() != 0 {
				t.Fatalf("of %d, that of %d has %+v", n, self, b.All())
			}
			for _, e := range []api.Event{event(3, 5), event(5, 10), event(4, 1), event(3, 0)} {
				b.Add(e)
				m.add(e)
			}
			held(t, "behind others", b, m)
			if b.Len() != 4 {
				t.Fatalf("of %d, that of %d has %+v", n, self, b.All())
			}
		}
	}
}

func TestAckP13_1(t *testing.T) {
	b, m := buffer.New(3, 1), modelOf(3, 1)
	for _, e := range []api.Event{event(0, 1), event(1, 1), event(0, 2), event(2, 1), event(1, 2)} {
		b.Add(e)
		m.add(e)
	}
	for i, c := range []struct {
		peer int
		v    api.Vector
		err  api.Errno
		left int
	}{
		{0, api.Vector{2}, api.OK, 5},
		{1, full(9), api.ErrNone, 5},
		{3, full(9), api.ErrNone, 5},
		{-1, full(9), api.ErrNone, 5},
		{0, full(0), api.OK, 5},
		{2, api.Vector{1, 2, 1}, api.OK, 4},
		{0, api.Vector{0, 1}, api.OK, 3},
		{2, api.Vector{2: 5}, api.OK, 3},
		{2, api.Vector{2}, api.OK, 2},
		{0, full(math.MinInt), api.OK, 2},
		{0, api.Vector{0, 0, 1}, api.OK, 1},
		{0, api.Vector{0, 2}, api.OK, 0},
		{0, full(math.MaxInt), api.OK, 0},
		{2, full(math.MaxInt), api.OK, 0},
	} {
		got := b.Ack(c.peer, c.v)
		m.ack(c.peer, c.v)
		if got != c.err || b.Len() != c.left {
			t.Errorf("Ack %d is %d, and leaves %d, not %d, %d", i, got, b.Len(), c.err, c.left)
		}
		held(t, "behind an Ack", b, m)
	}
	if b.Stable() != full(1<<62) {
		t.Errorf("Stable of the greatest is %v", b.Stable())
	}
}

// TestAckOfNoPeerP13_1: of no peer nothing is known, and nothing changes.
func TestAckOfNoPeerP13_1(t *testing.T) {
	for n := 1; n <= api.MaxReplicas; n++ {
		for self := range n {
			b, m := buffer.New(n, self), modelOf(n, self)
			b.Add(event(0, 1))
			m.add(event(0, 1))
			for _, i := range append(numbers(), self, n, n+1, -n) {
				if _, ok := m.peers[i]; !ok && b.Ack(i, full(api.MaxCount)) != api.ErrNone {
					t.Errorf("of %d, that of %d has a peer %d", n, self, i)
				}
			}
			held(t, "behind those of no peers", b, m)
		}
	}
}

// TestStableP13_1 asks for numbers below 0, and above 2^62, too.
func TestStableP13_1(t *testing.T) {
	for _, one := range numbers() {
		for _, other := range numbers() {
			b, m := buffer.New(3, 0), modelOf(3, 0)
			for i := range api.MaxReplicas {
				v := api.Vector{}
				v[i] = one
				b.Ack(1, v)
				m.ack(1, v)
				v[i] = other
				b.Ack(2, v)
				m.ack(2, v)
			}
			want := full(min(max(one, 0), max(other, 0), 1<<62))
			if got := b.Stable(); got != want || got != m.stable() {
				t.Errorf("Stable of %d and %d is %v", one, other, got)
			}
		}
	}
	// Each peer counts.
	for n := 2; n <= api.MaxReplicas; n++ {
		for self := range n {
			for low := range n {
				b := buffer.New(n, self)
				for peer := range n {
					if v := full(9); peer != low && peer != self {
						b.Ack(peer, v)
					}
				}
				want := api.Vector{}
				if low == self {
					want = full(9)
				}
				if got := b.Stable(); got != want {
					t.Errorf("of %d, that of %d tells %v, if %d knows nothing", n, self, got, low)
				}
			}
		}
	}
}

func TestLacksP13_1(t *testing.T) {
	b := buffer.New(2, 0)
	row := []api.Event{event(0, 1), event(1, 2), event(0, 2), event(1, 1), event(0, 3), event(0, 2)}
	for _, e := range row {
		b.Add(e)
	}
	for _, c := range []struct {
		v    api.Vector
		most int
		want []api.Event
	}{
		{api.Vector{}, 9, row},
		{api.Vector{}, 6, row},
		{api.Vector{}, 5, row[:5]},
		{api.Vector{}, 1, row[:1]},
		{api.Vector{}, 0, nil},
		{api.Vector{}, -1, nil},
		{api.Vector{}, math.MinInt, nil},
		{api.Vector{1}, math.MaxInt, row[1:]},
		{api.Vector{1}, 1, row[1:2]},
		{api.Vector{2}, 9, []api.Event{row[1], row[3], row[4]}},
		{api.Vector{2}, 2, []api.Event{row[1], row[3]}},
		{api.Vector{2, 1}, 2, []api.Event{row[1], row[4]}},
		{api.Vector{0, 2}, 3, []api.Event{row[0], row[2], row[4]}},
		{api.Vector{3, 2}, 9, nil},
		{full(math.MaxInt), 9, nil},
		{full(-1), 9, row},
		{full(math.MinInt), 2, row[:2]},
		{api.Vector{2: 9}, 9, row},
	} {
		if got := b.Lacks(c.v, c.most); !slices.Equal(got, c.want) {
			t.Errorf("Lacks(%v, %d) is %+v", c.v, c.most, got)
		}
	}
	if !slices.Equal(b.All(), row) {
		t.Error("Lacks takes events out")
	}
}

// TestOddDotsP13_1: a dot that may not be isn't known, whatever a peer knows: such an event comes, and stays.
func TestOddDotsP13_1(t *testing.T) {
	b, m := buffer.New(3, 2), modelOf(3, 2)
	for _, replica := range numbers() {
		for _, count := range numbers() {
			b.Add(event(replica, count))
			m.add(event(replica, count))
		}
	}
	held(t, "behind all dots", b, m)
	for range 2 {
		for peer := range 2 {
			b.Ack(peer, full(math.MaxInt))
			m.ack(peer, full(math.MaxInt))
			held(t, "all known", b, m)
		}
		for _, e := range []api.Event{event(0, 0), event(0, api.MaxCount+1), event(16, 1), event(-1, 1), {}} {
			b.Add(e)
			m.add(e)
		}
		held(t, "behind odd dots", b, m)
	}
	if b.Len() == 0 || slices.ContainsFunc(b.All(), func(e api.Event) bool { return knows(full(math.MaxInt), e.Dot) }) {
		t.Errorf("%d events are left", b.Len())
	}
}

// TestGoesP13_2: an event stays while one peer is not known to know it, whoever that is, and goes with the last one.
func TestGoesP13_2(t *testing.T) {
	r := rand.New(rand.NewSource(13))
	for n := 2; n <= api.MaxReplicas; n++ {
		for self := range n {
			b := buffer.New(n, self)
			for replica := range n {
				b.Add(event(replica, 1))
				b.Add(event(replica, 2))
			}
			all := b.All()
			order := r.Perm(n)
			order = slices.DeleteFunc(order, func(i int) bool { return i == self })
			last := order[len(order)-1]
			for _, peer := range order[:len(order)-1] {
				b.Ack(peer, full(2))
			}
			b.Ack(last, api.Vector{})
			if !slices.Equal(b.All(), all) {
				t.Fatalf("of %d, that of %d lost some that %d isn't known to know", n, self, last)
			}
			for replica := range n {
				v := api.Vector{}
				v[replica] = 1
				b.Ack(last, v)
				all = slices.DeleteFunc(all, func(e api.Event) bool { return e.Dot == dot(replica, 1) })
				if !slices.Equal(b.All(), all) {
					t.Fatalf("of %d, that of %d has %+v, not %+v", n, self, b.All(), all)
				}
			}
			b.Ack(last, full(2))
			if b.Len() != 0 {
				t.Fatalf("of %d, that of %d has %+v, that all know", n, self, b.All())
			}
		}
	}
}

// TestAllRowsP13_2 goes through all rows of five steps of three replicas: an event is there just while one of two peers isn't known to know it.
func TestAllRowsP13_2(t *testing.T) {
	steps := []func(*buffer.Buffer, *model){}
	for _, e := range []api.Event{event(0, 1), event(1, 1)} {
		steps = append(steps, func(b *buffer.Buffer, m *model) {
			b.Add(e)
			m.add(e)
		})
	}
	for peer := range 3 {
		for _, v := range []api.Vector{{1}, {0, 1}, {1, 1}} {
			steps = append(steps, func(b *buffer.Buffer, m *model) {
				b.Ack(peer, v)
				m.ack(peer, v)
			})
		}
	}
	all := 1
	for range 5 {
		all *= len(steps)
	}
	for self := range 3 {
		for row := range all {
			b, m := buffer.New(3, self), modelOf(3, self)
			left := row
			for range 5 {
				steps[left%len(steps)](b, m)
				left /= len(steps)
			}
			if !slices.Equal(b.All(), m.events) || b.Len() != len(m.events) || b.Stable() != m.stable() {
				t.Fatalf("that of %d, behind row %d, has %+v, not %+v", self, row, b.All(), m.events)
			}
		}
	}
}

// TestManyCallsP13_1 does calls of no pattern, and holds all answers against the model.
func TestManyCallsP13_1(t *testing.T) {
	r := rand.New(rand.NewSource(31))
	for n := 1; n <= api.MaxReplicas; n++ {
		self := r.Intn(n)
		b, m := buffer.New(n, self), modelOf(n, self)
		top := api.Vector{}
		for range 400 {
			if r.Intn(3) == 0 {
				replica := r.Intn(n)
				top[replica]++
				b.Add(event(replica, top[replica]))
				m.add(event(replica, top[replica]))
				continue
			}
			v := top
			for i := range v {
				v[i] -= r.Intn(3) * r.Intn(2)
			}
			peer := r.Intn(n+2) - 1
			if got, want := b.Ack(peer, v), m.ack(peer, v); got != want {
				t.Fatalf("Ack of %d is %d, not %d", peer, got, want)
			}
			held(t, "behind some calls", b, m)
		}
		for peer := range n {
			b.Ack(peer, top)
		}
		if b.Len() != 0 {
			t.Fatalf("of %d, that of %d has %+v, that all know", n, self, b.All())
		}
	}
}

func TestNilP13_1(t *testing.T) {
	var b *buffer.Buffer
	b.Add(event(0, 1))
	for _, i := range numbers() {
		if err := b.Ack(i, full(1)); err != api.ErrArg {
			t.Errorf("Ack of %d is %d", i, err)
		}
		if v, ok := b.Acked(i); ok || v != (api.Vector{}) {
			t.Errorf("Acked of %d is %v, %v", i, v, ok)
		}
		if l := b.Lacks(full(i), i); len(l) != 0 {
			t.Errorf("Lacks of %d is %+v", i, l)
		}
	}
	if b.Stable() != (api.Vector{}) || b.Len() != 0 || len(b.All()) != 0 {
		t.Errorf("Stable is %v, Len %d, All %+v", b.Stable(), b.Len(), b.All())
	}
}

// TestMemoryP13_1: what is done to an answer changes no buffer, and no other answer.
func TestMemoryP13_1(t *testing.T) {
	b, m := buffer.New(2, 0), modelOf(2, 0)
	for count := 1; count < 9; count++ {
		b.Add(event(0, count))
		m.add(event(0, count))
	}
	answers := func() [][]api.Event {
		return [][]api.Event{b.All(), b.Lacks(api.Vector{}, 100), b.Lacks(api.Vector{2}, 3)}
	}
	before, spoilt := answers(), answers()
	for _, l := range spoilt {
		_ = append(l, event(9, 9))
		_ = append(l[:1], event(9, 9))
		clear(l)
	}
	held(t, "behind a change of its answers", b, m)
	for i, l := range answers() {
		if !slices.Equal(l, before[i]) {
			t.Errorf("answer %d is %+v, not %+v", i, l, before[i])
		}
	}
	// What comes later doesn't change what was answered earlier.
	early := b.All()
	b.Ack(1, api.Vector{3})
	b.Add(event(0, 9))
	b.Ack(1, api.Vector{5})
	if !slices.Equal(early, before[0]) {
		t.Errorf("what was told is %+v by now", early)
	}
	m.add(event(0, 9))
	m.ack(1, api.Vector{5})
	held(t, "behind more", b, m)
}

// TestApartP13_1: buffers have nothing in common.
func TestApartP13_1(t *testing.T) {
	one, other := buffer.New(2, 0), buffer.New(2, 0)
	one.Add(event(0, 1))
	one.Ack(1, api.Vector{1: 4})
	held(t, "untouched", other, modelOf(2, 0))
}

// TestNoPanicP5 asks all calls at arguments of all sorts: a panic fails it, and so does what doesn't end.
func TestNoPanicP5(t *testing.T) {
	r := rand.New(rand.NewSource(5))
	num := func() int { return numbers()[r.Intn(len(numbers()))] }
	vec := func() api.Vector {
		var v api.Vector
		for i := range v {
			v[i] = num()
		}
		return v
	}
	for range 300 {
		l := []*buffer.Buffer{nil, {}, buffer.New(num(), num()), buffer.New(1+r.Intn(4), 0)}
		for range 40 {
			b := l[r.Intn(len(l))]
			e := event(num(), num())
			e.Past = vec()
			size := b.Len()
			b.Add(e)
			if b.Len() != size && b.Len() != size+1 {
				t.Fatalf("behind %d events there are %d", size, b.Len())
			}
			size = b.Len()
			peer, v := num(), vec()
			_, ok := b.Acked(peer)
			if err := b.Ack(peer, v); (err == api.OK) != ok || (err == api.ErrArg) != (b == nil) || b.Len() > size {
				t.Fatalf("Ack of %d is %d", peer, err)
			}
			if most := num(); len(b.Lacks(vec(), most)) > max(most, 0) || len(b.All()) != b.Len() {
				t.Fatalf("Lacks of %d tells more", most)
			}
			if s := b.Stable(); slices.Max(s[:]) > 1<<62 || slices.Min(s[:]) < 0 {
				t.Fatalf("Stable is %v", s)
			}
		}
	}
}
