package store_test

import (
	"math/rand"
	"slices"
	"testing"

	"hedgerow/api"
	"hedgerow/store"
)

// told are the items that the chapter's sentence tells of events: of each element an entry of each OpAdd (OpSet) whose dot no OpRemove (no other OpSet, no OpClear) of it knows in its Past.
func told(l []api.Event) []store.Item {
	want := &left{}
	for i, e := range l {
		stays := e.Op == api.OpAdd || e.Op == api.OpSet
		for j, other := range l {
			if i != j && other.Elem == e.Elem && other.Op != api.OpAdd && other.Past[e.Dot.Replica] >= e.Dot.Count {
				stays = false
			}
		}
		if stays {
			want.row = append(want.row, lone{e.Elem, store.Entry{Dot: e.Dot, Value: e.Value}})
		}
	}
	return want.items()
}

// may asks whether an event comes behind all that its Past knows, of those events, if these came.
func may(l []api.Event, came []bool, at int) bool {
	for i, e := range l {
		if !came[i] && e.Dot.Count <= l[at].Past[e.Dot.Replica] {
			return false
		}
	}
	return true
}

// orders asks for all orders of events in which each comes behind all that its Past knows.
func orders(l []api.Event, ask func([]api.Event)) {
	came := make([]bool, len(l))
	var row []api.Event
	var next func()
	next = func() {
		if len(row) == len(l) {
			ask(row)
		}
		for at, e := range l {
			if came[at] || !may(l, came, at) {
				continue
			}
			came[at] = true
			row = append(row, e)
			next()
			row = row[:len(row)-1]
			came[at] = false
		}
	}
	next()
}

// tell is how many orders there are; behind each one a store is held against the sentence, and so against all others.
func tell(t *testing.T, l []api.Event) int {
	t.Helper()
	want := told(l)
	whole := &left{}
	for _, i := range want {
		whole.put(i)
	}
	n := 0
	orders(l, func(row []api.Event) {
		n++
		s := do(t, store.New(), row...)
		if got := s.All(); !sameItems(got, want) {
			t.Fatalf("behind %+v there is %+v, not %+v", row, got, want)
		}
		if n == 1 {
			var all []api.Elem
			for _, e := range l {
				all = append(all, e.Elem)
			}
			held(t, "behind all events", s, whole, all...)
		}
	})
	return n
}

// TestAllPastsP7_2 does two events of each of two replicas, of all kinds and with all Pasts that they may have, in all orders.
func TestAllPastsP7_2(t *testing.T) {
	for _, e := range elems() {
		type deed struct {
			op int
			v  api.Value
		}
		deeds := []deed{{api.OpAdd, api.Value{}}, {api.OpRemove, api.Value{}}}
		if valued(e) {
			deeds = []deed{{api.OpSet, values()[5]}, {api.OpSet, values()[9]}, {api.OpClear, api.Value{}}}
		}
		rows, works := 0, 1
		for range 4 {
			works *= len(deeds)
		}
		for n := range works * 81 {
			l := make([]api.Event, 4)
			for i := range l {
				deed := deeds[n%len(deeds)]
				n /= len(deeds)
				replica := i / 2 * 11
				var past api.Vector
				past[11-replica] = n % 3
				n /= 3
				l[i] = made(dot(replica, 1+i%2), past, deed.op, e, deed.v)
			}
			rows += tell(t, l)
		}
		// Of the six ways to lay two rows of two into one, two leave room for 9 Pasts, and four for 12.
		if rows != works*66 {
			t.Errorf("of %+v there are %d orders, not %d", e, rows, works*66)
		}
	}
}

// history is a row of events that replicas write, each with a Past that it heard of, whole or in part, ahead of it.
func history(r *rand.Rand, size int, elems []api.Elem) []api.Event {
	var l []api.Event
	var knows [3]api.Vector
	for range size {
		self := r.Intn(3)
		if from := r.Intn(3); r.Intn(2) == 0 {
			for i, n := range knows[from] {
				knows[self][i] = max(knows[self][i], n)
			}
		}
		e := elems[r.Intn(len(elems))]
		d := dot(self, knows[self][self]+1)
		ev := gone(d, knows[self], e)
		if r.Intn(5) > 1 {
			v := values()[r.Intn(3)]
			ev = brought(d, e, v)
			ev.Past = knows[self]
		}
		l = append(l, ev)
		knows[self][self]++
	}
	return l
}

// TestAllOrdersP7_2 does events of three replicas that hear of each other, on elements that differ in little, in all orders.
func TestAllOrdersP7_2(t *testing.T) {
	r := rand.New(rand.NewSource(11))
	most := 0
	for n := range 400 {
		pool := slices.Concat(elems(), alike())
		r.Shuffle(len(pool), func(i, j int) { pool[i], pool[j] = pool[j], pool[i] })
		l := history(r, 3+n%6, pool[:1+r.Intn(2)])
		r.Shuffle(len(l), func(i, j int) { l[i], l[j] = l[j], l[i] })
		rows := tell(t, l)
		if rows == 0 {
			t.Fatalf("%+v have no order", l)
		}
		most = max(most, rows)
	}
	if most < 200 {
		t.Errorf("at most %d orders", most)
	}
}

// TestSomeOrdersP7_2 does more events than all orders could be gone through of, in some.
func TestSomeOrdersP7_2(t *testing.T) {
	r := rand.New(rand.NewSource(12))
	for range 20 {
		l := history(r, 150, elems())
		want := told(l)
		for range 10 {
			s := store.New()
			came := make([]bool, len(l))
			for done := 0; done < len(l); {
				at := r.Intn(len(l))
				if came[at] || !may(l, came, at) {
					continue
				}
				do(t, s, l[at])
				came[at] = true
				done++
			}
			if got := s.All(); !sameItems(got, want) {
				t.Fatalf("there is %+v, not %+v", got, want)
			}
		}
	}
}

// TestSentenceP7_2 holds some rows of events against what is left of them, told by hand.
func TestSentenceP7_2(t *testing.T) {
	node, prop := elems()[0], elems()[3]
	one, two := values()[5], values()[6]
	for name, c := range map[string]struct {
		row  []api.Event
		want []store.Entry
	}{
		"an add": {[]api.Event{made(dot(0, 1), api.Vector{}, api.OpAdd, node, api.Value{})}, []store.Entry{{Dot: dot(0, 1)}}},
		"an add, and a remove that doesn't know it": {[]api.Event{
			made(dot(0, 1), api.Vector{}, api.OpAdd, node, api.Value{}),
			made(dot(1, 1), api.Vector{}, api.OpRemove, node, api.Value{}),
		}, []store.Entry{{Dot: dot(0, 1)}}},
		"an add, and a remove that knows it": {[]api.Event{
			made(dot(0, 1), api.Vector{}, api.OpAdd, node, api.Value{}),
			made(dot(1, 1), api.Vector{1}, api.OpRemove, node, api.Value{}),
		}, nil},
		"two adds, and a remove that knows one": {[]api.Event{
			made(dot(0, 1), api.Vector{}, api.OpAdd, node, api.Value{}),
			made(dot(2, 1), api.Vector{}, api.OpAdd, node, api.Value{}),
			made(dot(1, 1), api.Vector{1}, api.OpRemove, node, api.Value{}),
		}, []store.Entry{{Dot: dot(2, 1)}}},
		"an add again, behind a remove": {[]api.Event{
			made(dot(0, 1), api.Vector{}, api.OpAdd, node, api.Value{}),
			made(dot(1, 1), api.Vector{1}, api.OpRemove, node, api.Value{}),
			made(dot(0, 2), api.Vector{1, 1}, api.OpAdd, node, api.Value{}),
		}, []store.Entry{{Dot: dot(0, 2)}}},
		"an add that knows another one": {[]api.Event{
			made(dot(0, 1), api.Vector{}, api.OpAdd, node, api.Value{}),
			made(dot(1, 1), api.Vector{1}, api.OpAdd, node, api.Value{}),
		}, []store.Entry{{Dot: dot(0, 1)}, {Dot: dot(1, 1)}}},
		"two sets apart": {[]api.Event{
			made(dot(0, 1), api.Vector{}, api.OpSet, prop, two),
			made(dot(1, 1), api.Vector{}, api.OpSet, prop, one),
		}, []store.Entry{{dot(0, 1), two}, {dot(1, 1), one}}},
		"a set that knows one of two": {[]api.Event{
			made(dot(0, 1), api.Vector{}, api.OpSet, prop, two),
			made(dot(1, 1), api.Vector{}, api.OpSet, prop, one),
			made(dot(2, 1), api.Vector{0, 1}, api.OpSet, prop, two),
		}, []store.Entry{{dot(0, 1), two}, {dot(2, 1), two}}},
		"a clear, and a set that it doesn't know": {[]api.Event{
			made(dot(0, 1), api.Vector{}, api.OpSet, prop, two),
			made(dot(1, 1), api.Vector{1}, api.OpClear, prop, api.Value{}),
			made(dot(0, 2), api.Vector{}, api.OpSet, prop, one),
		}, []store.Entry{{dot(0, 2), one}}},
		"a clear that knows all": {[]api.Event{
			made(dot(0, 1), api.Vector{}, api.OpSet, prop, two),
			made(dot(0, 2), api.Vector{}, api.OpSet, prop, one),
			made(dot(1, 1), api.Vector{2}, api.OpClear, prop, api.Value{}),
		}, nil},
	} {
		n := 0
		orders(c.row, func(row []api.Event) {
			n++
			s := do(t, store.New(), row...)
			if got := s.Entries(row[0].Elem); !same(got, c.want) {
				t.Errorf("%s: there are %+v, not %+v", name, got, c.want)
			}
		})
		if n == 0 {
			t.Errorf("%s: there is no order", name)
		}
		if items := told(c.row); len(items) != min(len(c.want), 1) || len(items) == 1 && !same(items[0].Entries, c.want) {
			t.Errorf("%s: the sentence tells %+v, not %+v", name, items, c.want)
		}
	}
}
