package accept_test

import (
	"math"
	"math/rand"
	"slices"
	"strconv"
	"testing"

	"hedgerow/accept"
	"hedgerow/api"
)

// named is an event of parts that no call but Sort's own order looks at; its name tells it from others.
func named(name string, d api.Dot, past api.Vector) api.Event {
	return api.Event{Dot: d, Past: past, Elem: api.Elem{A: name}}
}

// names are the events', in order.
func names(l []api.Event) string {
	all := ""
	for _, e := range l {
		all += e.Elem.A + " "
	}
	return all
}

// orderly are events in Sort's order, of unlike places; what may not be has its place, too.
func orderly() []api.Event {
	var full api.Vector
	for i := range full {
		full[i] = math.MaxInt
	}
	return []api.Event{
		named("a", dot(math.MinInt, 5), api.Vector{}),
		named("b", dot(-1, 5), api.Vector{-1, math.MinInt}),
		named("c", dot(0, math.MinInt), api.Vector{}),
		named("d", dot(0, 1), api.Vector{3: -7}),
		named("e", dot(0, 2), api.Vector{}),
		named("f", dot(0, math.MaxInt), api.Vector{}),
		named("g", dot(3, 0), api.Vector{}),
		named("h", dot(0, 2), api.Vector{1}),
		named("i", dot(2, 1), api.Vector{15: 1, 4: -1}),
		named("j", dot(1, 9), api.Vector{1, 1}),
		named("k", dot(2, 3), api.Vector{15: 2}),
		named("l", dot(10, 1), api.Vector{2}),
		named("m", dot(0, 1), api.Vector{8, 1, 1}),
		named("n", dot(0, 1), api.Vector{0, 0, 11}),
		named("o", dot(0, 1), api.Vector{15: 1 << 61}),
		// Of numbers that come to 2^62 and more, the sum is 2^62.
		named("p", dot(0, 4), full),
		named("q", dot(1, 3), api.Vector{1 << 62}),
		named("r", dot(1, 4), api.Vector{math.MaxInt, 1}),
		named("s", dot(2, 1), api.Vector{1 << 61, 1 << 61}),
	}
}

func TestSortP9_1(t *testing.T) {
	want := orderly()
	r := rand.New(rand.NewSource(91))
	l := slices.Clone(want)
	for range 300 {
		r.Shuffle(len(l), func(i, j int) { l[i], l[j] = l[j], l[i] })
		before := slices.Clone(l)
		if got := accept.Sort(l); !same(got, want) {
			t.Fatalf("Sort of %s is %s", names(l), names(got))
		}
		if !same(l, before) {
			t.Fatalf("Sort changes %s to %s", names(before), names(l))
		}
	}
	if got := accept.Sort(nil); len(got) != 0 {
		t.Errorf("Sort of nothing is %+v", got)
	}
}

// TestSortPairsP9_1 sorts each two of them.
func TestSortPairsP9_1(t *testing.T) {
	l := orderly()
	for i := range l {
		for j := range i {
			if got := accept.Sort([]api.Event{l[i], l[j]}); !same(got, []api.Event{l[j], l[i]}) {
				t.Errorf("%s is ahead of %s", l[i].Elem.A, l[j].Elem.A)
			}
		}
	}
}

// TestSortStaysP9_1: like ones stay as they were, however many there are, and whatever else is unlike in them.
func TestSortStaysP9_1(t *testing.T) {
	r := rand.New(rand.NewSource(92))
	places := []api.Event{named("", dot(0, 1), api.Vector{}), named("", dot(0, 1), api.Vector{3}), named("", dot(0, 1), api.Vector{1, 2}), named("", dot(0, 2), api.Vector{0, 2, 1})}
	for _, size := range []int{2, 5, 40, 500} {
		var l []api.Event
		var want [3][]api.Event
		for n := range size {
			at := r.Intn(len(places))
			e := places[at]
			e.Elem.A = strconv.Itoa(n)
			e.Op = r.Intn(5)
			l = append(l, e)
			row := []int{0, 1, 1, 2}[at]
			want[row] = append(want[row], e)
		}
		if got := accept.Sort(l); !same(got, slices.Concat(want[0], want[1], want[2])) {
			t.Errorf("Sort of %d is %s", size, names(got))
		}
	}
}

// history is a row of events of closed Pasts: a replica hears of all, or of the first, that another one knew, and so of what these know.
func history(r *rand.Rand, size, replicas int) []api.Event {
	var l []api.Event
	knows := make([]api.Vector, replicas)
	past := map[api.Dot]api.Vector{}
	hear := func(self, from int) {
		for i, n := range knows[from] {
			knows[self][i] = max(knows[self][i], n)
		}
	}
	for range size {
		self := r.Intn(replicas)
		switch other := r.Intn(replicas); r.Intn(3) {
		case 0:
			hear(self, other)
		case 1: // of one event of the other one's
			if n := knows[other][other]; n > 0 {
				d := dot(other, 1+r.Intn(n))
				for i, m := range past[d] {
					knows[self][i] = max(knows[self][i], m)
				}
				knows[self][other] = max(knows[self][other], d.Count)
			}
		}
		e := add(dot(self, knows[self][self]+1), knows[self])
		past[e.Dot] = e.Past
		knows[self][self]++
		l = append(l, e)
	}
	return l
}

// closed asks whether each event knows what those that it knows know.
func closed(l []api.Event) bool {
	for _, e := range l {
		for _, other := range l {
			for i, n := range other.Past {
				if knows(e.Past, other) && n > e.Past[i] {
					return false
				}
			}
		}
	}
	return true
}

// shuffled is a row of the same events in another order in which they may come.
func shuffled(t *testing.T, r *rand.Rand, l []api.Event) []api.Event {
	var row []api.Event
	var v api.Vector
	rest := slices.Clone(l)
	for len(rest) > 0 {
		var may []int
		for i, e := range rest {
			if told(v, e) == api.OK {
				may = append(may, i)
			}
		}
		if len(may) == 0 {
			t.Fatalf("%+v are no row", l)
		}
		at := may[r.Intn(len(may))]
		row = append(row, rest[at])
		v[rest[at].Dot.Replica]++
		rest = slices.Delete(rest, at, at+1)
	}
	return row
}

// TestSortOfRowsP9_2 sorts rows of closed Pasts, and lets what comes come.
func TestSortOfRowsP9_2(t *testing.T) {
	r := rand.New(rand.NewSource(93))
	moved := 0
	for n := range 600 {
		l := shuffled(t, r, history(r, n%40, 1+n%api.MaxReplicas))
		if !accept.Row(l) || !closed(l) {
			t.Fatalf("%+v are no row", l)
		}
		sorted := accept.Sort(l)
		if !accept.Row(sorted) {
			t.Fatalf("sorted %+v are no row", sorted)
		}
		if !same(sorted, l) {
			moved++
		}
		taken, _, err := accept.All(api.Vector{}, sorted)
		if !same(taken, sorted) || err != api.OK {
			t.Fatalf("of %+v come %+v, then %d", sorted, taken, err)
		}
		// Whatever order they stand in, Sort's is the same one.
		r.Shuffle(len(l), func(i, j int) { l[i], l[j] = l[j], l[i] })
		if !same(accept.Sort(l), sorted) {
			t.Fatalf("Sort hangs on the order of %+v", l)
		}
	}
	if moved < 300 {
		t.Errorf("only %d rows were in another order", moved)
	}
}

// TestSortOfAllSmallRowsP9_2 sorts all rows of two events each of two replicas, whose Pasts are closed.
func TestSortOfAllSmallRowsP9_2(t *testing.T) {
	rows := 0
	for n := range 81 {
		var l []api.Event
		for i := range 4 {
			replica := i / 2 * 6
			var past api.Vector
			past[6-replica] = n % 3
			n /= 3
			l = append(l, add(dot(replica, 1+i%2), past))
		}
		for n := range 256 {
			order := []api.Event{l[n%4], l[n/4%4], l[n/16%4], l[n/64]}
			if accept.Row(order) && closed(l) {
				rows++
				if !accept.Row(accept.Sort(order)) {
					t.Fatalf("Sort of %+v is no row", order)
				}
			}
		}
	}
	if rows < 20 {
		t.Errorf("only %d rows", rows)
	}
}
