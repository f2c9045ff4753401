package store_test

import (
	"math"
	"math/rand"
	"reflect"
	"slices"
	"sort"
	"strings"
	"testing"

	"hedgerow/api"
	"hedgerow/store"
)

// elems are one element of each kind, of the same names.
func elems() []api.Elem {
	return []api.Elem{
		{Kind: api.ElemNode, A: "a"},
		{Kind: api.ElemLabel, A: "a", D: "p"},
		{Kind: api.ElemEdge, A: "a", B: "b", C: "K"},
		{Kind: api.ElemProp, A: "a", D: "p"},
		{Kind: api.ElemTrait, A: "a", B: "b", C: "K", D: "p"},
	}
}

// valued asks whether an element's entries have values.
func valued(e api.Elem) bool { return e.Kind == api.ElemProp || e.Kind == api.ElemTrait }

// values are those that may be set, rising.
func values() []api.Value {
	return []api.Value{
		{Kind: api.Bool}, {Kind: api.Bool, Num: 1},
		{Kind: api.Int, Num: -api.MaxNum}, {Kind: api.Int, Num: -1}, {Kind: api.Int}, {Kind: api.Int, Num: 9}, {Kind: api.Int, Num: 10}, {Kind: api.Int, Num: api.MaxNum},
		{Kind: api.Text}, {Kind: api.Text, Text: " "}, {Kind: api.Text, Text: "10"}, {Kind: api.Text, Text: "9"}, {Kind: api.Text, Text: "Z"}, {Kind: api.Text, Text: "a"}, {Kind: api.Text, Text: "aa"}, {Kind: api.Text, Text: strings.Repeat("b", api.MaxText)}, {Kind: api.Text, Text: "~"},
	}
}

// unfit are values that no entry may have; but of Null, the first one, those of what has no values.
func unfit() []api.Value {
	return []api.Value{
		{},
		{Num: 1}, {Text: "a"}, {Kind: api.Bool, Num: 2}, {Kind: api.Bool, Num: -1}, {Kind: api.Bool, Text: "a"},
		{Kind: api.Int, Num: api.MaxNum + 1}, {Kind: api.Int, Num: -api.MaxNum - 1}, {Kind: api.Int, Num: 1, Text: "1"}, {Kind: api.Int, Num: math.MinInt},
		{Kind: api.Text, Num: 1}, {Kind: api.Text, Text: strings.Repeat("b", api.MaxText+1)}, {Kind: api.Text, Text: "a\n"}, {Kind: api.Text, Text: "é"}, {Kind: api.Text, Text: "\x7f"},
		{Kind: api.Node, Text: "a"}, {Kind: api.Node}, {Kind: api.Edge, Text: "a>K>b"}, {Kind: 6}, {Kind: -1}, {Kind: math.MaxInt, Num: math.MinInt, Text: "\xff"},
	}
}

// wrongElems are elements that may not be.
func wrongElems() []api.Elem {
	long := strings.Repeat("n", api.MaxName+1)
	return []api.Elem{
		{}, {A: "a"}, {Kind: 6, A: "a", B: "b", C: "K", D: "p"}, {Kind: -1, A: "a"}, {Kind: math.MaxInt},
		{Kind: api.ElemNode}, {Kind: api.ElemNode, A: "9"}, {Kind: api.ElemNode, A: long}, {Kind: api.ElemNode, A: "a", D: "p"},
		{Kind: api.ElemLabel, A: "a"}, {Kind: api.ElemLabel, D: "p"}, {Kind: api.ElemLabel, A: "a", B: "b", D: "p"},
		{Kind: api.ElemEdge, A: "a", B: "b"}, {Kind: api.ElemEdge, A: "a", C: "K"}, {Kind: api.ElemEdge, B: "b", C: "K"}, {Kind: api.ElemEdge, A: "a", B: "b", C: "K", D: "p"},
		{Kind: api.ElemProp, A: "a"}, {Kind: api.ElemProp, A: "a", D: long}, {Kind: api.ElemProp, A: "a", C: "K", D: "p"},
		{Kind: api.ElemTrait, A: "a", B: "b", C: "K"}, {Kind: api.ElemTrait, A: "a", B: "b", D: "p"}, {Kind: api.ElemTrait, A: "a", B: "é", C: "K", D: "p"},
	}
}

// dot is one of its parts.
func dot(replica, count int) api.Dot { return api.Dot{Replica: replica, Count: count} }

// made is an event: its Past knows, beside what is told, what is ahead of it of its own replica.
func made(d api.Dot, past api.Vector, op int, e api.Elem, v api.Value) api.Event {
	past[d.Replica] = d.Count - 1
	return api.Event{Dot: d, Past: past, Op: op, Elem: e, Value: v}
}

// brought is an event that brings an entry to an element, with the value if it has values, and knows nothing of others.
func brought(d api.Dot, e api.Elem, v api.Value) api.Event {
	if valued(e) {
		return made(d, api.Vector{}, api.OpSet, e, v)
	}
	return made(d, api.Vector{}, api.OpAdd, e, api.Value{})
}

// gone is an event that takes entries from an element, and brings none.
func gone(d api.Dot, past api.Vector, e api.Elem) api.Event {
	if valued(e) {
		return made(d, past, api.OpClear, e, api.Value{})
	}
	return made(d, past, api.OpRemove, e, api.Value{})
}

// do does events that may be.
func do(t *testing.T, s *store.Store, l ...api.Event) *store.Store {
	t.Helper()
	for _, e := range l {
		if err := s.Do(e); err != api.OK {
			t.Fatalf("Do(%+v) is %d", e, err)
		}
	}
	return s
}

// put puts an element's entries, of those dots; their values are told from the dots, if it has values.
func put(t *testing.T, s *store.Store, e api.Elem, l ...api.Dot) *store.Store {
	t.Helper()
	if err := s.Put(store.Item{Elem: e, Entries: entries(e, l...)}); err != api.OK {
		t.Fatalf("Put of %v to %+v is %d", l, e, err)
	}
	return s
}

// entries are an element's of those dots; their values are told from the dots, if it has values.
func entries(e api.Elem, l ...api.Dot) []store.Entry {
	var all []store.Entry
	for _, d := range l {
		x := store.Entry{Dot: d}
		if valued(e) {
			x.Value = values()[(d.Replica+d.Count)%len(values())]
		}
		all = append(all, x)
	}
	return all
}

// same asks whether two answers are, nil and empty being one.
func same[T comparable](a, b []T) bool { return slices.Equal(a, b) }

// sameItems asks it of items.
func sameItems(a, b []store.Item) bool {
	return slices.EqualFunc(a, b, func(x, y store.Item) bool { return x.Elem == y.Elem && same(x.Entries, y.Entries) })
}

// lone is an element's entry.
type lone struct {
	elem  api.Elem
	entry store.Entry
}

// left is a store by another's hand: entries in a row, gone through from the beginning each time.
type left struct{ row []lone }

// do does an event that may be.
func (l *left) do(e api.Event) {
	var rest []lone
	for _, x := range l.row {
		d := x.entry.Dot
		if x.elem == e.Elem && (e.Op != api.OpAdd && e.Past[d.Replica] >= d.Count || d == e.Dot && (e.Op == api.OpAdd || e.Op == api.OpSet)) {
			continue
		}
		rest = append(rest, x)
	}
	if e.Op == api.OpAdd || e.Op == api.OpSet {
		rest = append(rest, lone{e.Elem, store.Entry{Dot: e.Dot, Value: e.Value}})
	}
	l.row = rest
}

// put puts an item that may be.
func (l *left) put(i store.Item) {
	l.row = slices.DeleteFunc(l.row, func(x lone) bool { return x.elem == i.Elem })
	for _, x := range i.Entries {
		l.row = append(l.row, lone{i.Elem, x})
	}
}

// entries are an element's, in their order.
func (l *left) entries(e api.Elem) []store.Entry {
	var all []store.Entry
	for _, x := range l.row {
		if x.elem == e {
			all = append(all, x.entry)
		}
	}
	sort.Slice(all, func(i, j int) bool {
		a, b := all[i].Dot, all[j].Dot
		return a.Replica*(1<<21)+a.Count < b.Replica*(1<<21)+b.Count
	})
	return all
}

// values are an element's, rising, each once.
func (l *left) values(e api.Elem) []api.Value {
	var all []api.Value
	for _, x := range l.entries(e) {
		if !slices.Contains(all, x.Value) {
			all = append(all, x.Value)
		}
	}
	sort.Slice(all, func(i, j int) bool {
		a, b := all[i], all[j]
		if a.Kind != b.Kind {
			return a.Kind < b.Kind
		}
		if a.Num != b.Num {
			return a.Num < b.Num
		}
		return a.Text < b.Text
	})
	return all
}

// items are all, in their order.
func (l *left) items() []store.Item {
	var all []store.Item
	told := map[api.Elem]bool{}
	for _, x := range l.row {
		if !told[x.elem] {
			told[x.elem] = true
			all = append(all, store.Item{Elem: x.elem, Entries: l.entries(x.elem)})
		}
	}
	sort.Slice(all, func(i, j int) bool { return ahead(all[i].Elem, all[j].Elem) })
	return all
}

// ahead asks whether an element comes ahead of another one: of unlike texts "\x00" is less than what may be in a name.
func ahead(a, b api.Elem) bool {
	if a.Kind != b.Kind {
		return a.Kind < b.Kind
	}
	return strings.Join([]string{a.A, a.B, a.C, a.D}, "\x00") < strings.Join([]string{b.A, b.B, b.C, b.D}, "\x00")
}

// held holds all that a store answers against what it ought to.
func held(t *testing.T, name string, s *store.Store, want *left, elems ...api.Elem) {
	t.Helper()
	all := want.items()
	if got := s.All(); !sameItems(got, all) {
		t.Fatalf("%s: All is %+v, not %+v", name, got, all)
	}
	if got := s.Len(); got != len(want.row) {
		t.Fatalf("%s: Len is %d, not %d", name, got, len(want.row))
	}
	for _, i := range all {
		elems = append(elems, i.Elem)
	}
	for _, e := range elems {
		l := want.entries(e)
		if got := s.Entries(e); !same(got, l) {
			t.Fatalf("%s: Entries of %+v are %+v, not %+v", name, e, got, l)
		}
		if got := s.Has(e); got != (len(l) > 0) {
			t.Fatalf("%s: Has of %+v is %v", name, e, got)
		}
		if got := s.Values(e); !same(got, want.values(e)) {
			t.Fatalf("%s: Values of %+v are %+v, not %+v", name, e, got, want.values(e))
		}
	}
}

func TestNewP7_1(t *testing.T) {
	for name, s := range map[string]*store.Store{"New": store.New(), "the zero Store": {}} {
		for _, e := range append(elems(), wrongElems()...) {
			if s.Has(e) || len(s.Entries(e)) != 0 || len(s.Values(e)) != 0 {
				t.Errorf("%s has entries of %+v", name, e)
			}
		}
		if s.Len() != 0 || len(s.All()) != 0 {
			t.Errorf("%s has %d entries, %+v", name, s.Len(), s.All())
		}
	}
	// Nothing is taken from a store that has nothing, and whatever comes first finds its place.
	for _, e := range elems() {
		first := []func(*store.Store) api.Errno{
			func(s *store.Store) api.Errno { return s.Do(gone(dot(0, 1), api.Vector{}, e)) },
			func(s *store.Store) api.Errno { return s.Put(store.Item{Elem: e}) },
		}
		for _, call := range first {
			for _, s := range []*store.Store{store.New(), {}} {
				if err := call(s); err != api.OK || s.Len() != 0 || len(s.All()) != 0 {
					t.Errorf("nothing of %+v is error %d, Len %d, %+v", e, err, s.Len(), s.All())
				}
			}
		}
		if s := do(t, new(store.Store), brought(dot(0, 1), e, values()[0])); s.Len() != 1 {
			t.Errorf("the zero store behind an event of %+v has %d entries", e, s.Len())
		}
		if s := put(t, new(store.Store), e, dot(0, 1)); s.Len() != 1 {
			t.Errorf("the zero store behind a Put to %+v has %d entries", e, s.Len())
		}
	}
	if a, b := store.New(), store.New(); do(t, a, brought(dot(0, 1), elems()[0], api.Value{})).Len() != 1 || b.Len() != 0 {
		t.Error("two stores are one")
	}
}

// TestExampleP7_1: an add, and a remove that doesn't know it: it is there.
func TestExampleP7_1(t *testing.T) {
	e := elems()[0]
	s := do(t, store.New(), brought(dot(0, 1), e, api.Value{}), gone(dot(1, 1), api.Vector{}, e))
	if !s.Has(e) || !same(s.Entries(e), []store.Entry{{Dot: dot(0, 1)}}) {
		t.Errorf("Entries are %+v", s.Entries(e))
	}
	do(t, s, gone(dot(1, 2), api.Vector{1}, e))
	if s.Has(e) {
		t.Errorf("behind a remove that knows it Entries are %+v", s.Entries(e))
	}
}

// TestDoEachOpP7_1 does each Op on each kind of element with each value: on an element with an entry that the event's Past knows, and one that it doesn't.
func TestDoEachOpP7_1(t *testing.T) {
	for _, e := range elems() {
		for _, op := range []int{math.MinInt, -1, 0, api.OpAdd, api.OpRemove, api.OpSet, api.OpClear, 5, 257, math.MaxInt} {
			for i, v := range append(unfit(), values()...) {
				ev := made(dot(2, 5), api.Vector{3: 1, 4: 8}, op, e, v)
				fit := i >= len(unfit())
				dots, want := []api.Dot{dot(3, 1), dot(4, 9)}, api.ErrArg
				switch {
				case op == api.OpAdd && !valued(e) && i == 0:
					dots, want = []api.Dot{dot(2, 5), dot(3, 1), dot(4, 9)}, api.OK
				case op == api.OpRemove && !valued(e) && i == 0, op == api.OpClear && valued(e) && i == 0:
					dots, want = []api.Dot{dot(4, 9)}, api.OK
				case op == api.OpSet && valued(e) && fit:
					dots, want = []api.Dot{dot(2, 5), dot(4, 9)}, api.OK
				}
				there := &left{}
				s := store.New()
				for _, other := range elems() {
					put(t, s, other, dot(3, 1), dot(4, 9))
					there.put(store.Item{Elem: other, Entries: entries(other, dot(3, 1), dot(4, 9))})
				}
				if got := s.Do(ev); got != want {
					t.Fatalf("Do(%+v) is %d", ev, got)
				}
				all := entries(e, dots...)
				if dots[0] == ev.Dot {
					all[0].Value = v
				}
				there.put(store.Item{Elem: e, Entries: all})
				held(t, "behind an event", s, there)
			}
		}
	}
}

// TestKnownP7_1: what takes entries takes none, some and all of them, as its Past knows them.
func TestKnownP7_1(t *testing.T) {
	there := []api.Dot{dot(0, 1), dot(0, 2), dot(5, 7), dot(5, 300), dot(15, api.MaxCount)}
	for _, c := range []struct {
		past api.Vector
		left []api.Dot
	}{
		{api.Vector{}, there},
		{api.Vector{5: 6, 15: api.MaxCount - 1}, there},
		{api.Vector{1: 9, 4: 9, 6: 9, 14: api.MaxCount}, there},
		{api.Vector{0: 1}, there[1:]},
		{api.Vector{0: 2}, there[2:]},
		{api.Vector{0: api.MaxCount}, there[2:]},
		{api.Vector{5: 7}, []api.Dot{dot(0, 1), dot(0, 2), dot(5, 300), dot(15, api.MaxCount)}},
		{api.Vector{5: 299}, []api.Dot{dot(0, 1), dot(0, 2), dot(5, 300), dot(15, api.MaxCount)}},
		{api.Vector{0: 1, 5: 300}, []api.Dot{dot(0, 2), dot(15, api.MaxCount)}},
		{api.Vector{15: api.MaxCount}, there[:4]},
		{api.Vector{0: 2, 5: 300, 15: api.MaxCount - 1}, there[4:]},
		{api.Vector{0: 2, 5: 300, 15: api.MaxCount}, nil},
		{api.Vector{0: 9, 3: 9, 5: api.MaxCount, 15: api.MaxCount}, nil},
	} {
		for _, e := range elems() {
			for _, own := range []int{1, 2, api.MaxCount} {
				s := put(t, store.New(), e, there...)
				do(t, s, gone(dot(9, own), c.past, e))
				if got, want := s.Entries(e), entries(e, c.left...); !same(got, want) {
					t.Errorf("of %+v a Past of %v leaves %+v, not %+v", e, c.past, got, want)
				}
				if s.Has(e) != (len(c.left) > 0) || s.Len() != len(c.left) || len(s.All()) != min(len(c.left), 1) {
					t.Errorf("of %+v a Past of %v leaves Has %v, Len %d, All %+v", e, c.past, s.Has(e), s.Len(), s.All())
				}
				if !valued(e) {
					continue
				}
				s = put(t, store.New(), e, there...)
				set := made(dot(9, own), c.past, api.OpSet, e, values()[3])
				do(t, s, set)
				want := append(entries(e, c.left...), store.Entry{Dot: set.Dot, Value: set.Value})
				slices.SortFunc(want, func(a, b store.Entry) int { return a.Dot.Replica - b.Dot.Replica })
				if got := s.Entries(e); !same(got, want) {
					t.Errorf("of %+v a set with a Past of %v leaves %+v, not %+v", e, c.past, got, want)
				}
			}
		}
	}
}

// TestOwnP7_1: what a replica did before is known to it, too: it sets, clears and removes its own, and adds beside its own.
func TestOwnP7_1(t *testing.T) {
	v := values()
	for _, e := range elems() {
		s := do(t, store.New(), brought(dot(7, 1), e, v[1]), brought(dot(7, 2), e, v[2]), brought(dot(7, 3), e, v[1]))
		want := []store.Entry{{Dot: dot(7, 1)}, {Dot: dot(7, 2)}, {Dot: dot(7, 3)}}
		if valued(e) {
			want = []store.Entry{{Dot: dot(7, 3), Value: v[1]}}
		}
		if got := s.Entries(e); !same(got, want) {
			t.Errorf("of %+v there are %+v, not %+v", e, got, want)
		}
		if do(t, s, gone(dot(7, 4), api.Vector{}, e)); s.Has(e) || s.Len() != 0 {
			t.Errorf("of %+v there are %+v behind what takes all", e, s.Entries(e))
		}
	}
}

// TestEntriesInOrderP7_1: entries are told by Replica, then Count, in whatever order they came.
func TestEntriesInOrderP7_1(t *testing.T) {
	dots := []api.Dot{dot(0, 9), dot(0, 10), dot(1, 1), dot(2, 1), dot(2, api.MaxCount), dot(10, 1), dot(15, 2)}
	r := rand.New(rand.NewSource(7))
	for range 100 {
		for _, e := range elems() {
			mixed := slices.Clone(dots)
			r.Shuffle(len(mixed), func(i, j int) { mixed[i], mixed[j] = mixed[j], mixed[i] })
			if valued(e) {
				// A later one of the same replica would undo an earlier one.
				slices.SortStableFunc(mixed, func(a, b api.Dot) int { return b.Count - a.Count })
			}
			s := store.New()
			for _, x := range entries(e, mixed...) {
				do(t, s, brought(x.Dot, e, x.Value))
			}
			if got, want := s.Entries(e), entries(e, dots...); !same(got, want) {
				t.Fatalf("Entries of %+v are %+v, not %+v", e, got, want)
			}
			if got, want := s.All(), []store.Item{{Elem: e, Entries: entries(e, dots...)}}; !sameItems(got, want) || s.Len() != len(dots) {
				t.Fatalf("All is %+v, not %+v", got, want)
			}
		}
	}
}

// TestValuesP7_1: values rise by Kind, Num and Text, and equal ones of several entries are told once.
func TestValuesP7_1(t *testing.T) {
	r := rand.New(rand.NewSource(8))
	for _, e := range elems()[3:] {
		for _, want := range [][]api.Value{values(), values()[:2], values()[5:9], values()[8:], values()[4:5], {values()[1], values()[3], values()[12]}} {
			for _, times := range []int{1, 2, 3} {
				var mixed []api.Value
				for range times {
					mixed = append(mixed, want...)
				}
				r.Shuffle(len(mixed), func(i, j int) { mixed[i], mixed[j] = mixed[j], mixed[i] })
				i := store.Item{Elem: e}
				for at, v := range mixed {
					i.Entries = append(i.Entries, store.Entry{Dot: dot(at%16, at+1), Value: v})
				}
				slices.SortFunc(i.Entries, func(a, b store.Entry) int { return (a.Dot.Replica-b.Dot.Replica)*1000 + a.Dot.Count - b.Dot.Count })
				s := store.New()
				if err := s.Put(i); err != api.OK {
					t.Fatalf("Put(%+v) is %d", i, err)
				}
				if got := s.Values(e); !same(got, want) {
					t.Fatalf("Values of %+v are %+v, not %+v", i, got, want)
				}
				if s.Len() != len(mixed) {
					t.Fatalf("Len of %d entries is %d", len(mixed), s.Len())
				}
			}
		}
		// Two set the same apart: of one value there are two entries, and it stays until both are known.
		v := values()[5]
		s := do(t, store.New(), brought(dot(0, 1), e, v), brought(dot(1, 1), e, v))
		if !same(s.Values(e), []api.Value{v}) || len(s.Entries(e)) != 2 {
			t.Errorf("Values are %+v, Entries %+v", s.Values(e), s.Entries(e))
		}
		if do(t, s, gone(dot(2, 1), api.Vector{1}, e)); !same(s.Values(e), []api.Value{v}) || len(s.Entries(e)) != 1 {
			t.Errorf("behind one is cleared Values are %+v", s.Values(e))
		}
		if do(t, s, gone(dot(2, 2), api.Vector{0, 1}, e)); len(s.Values(e)) != 0 {
			t.Errorf("behind both are cleared Values are %+v", s.Values(e))
		}
	}
	// Entries of others have nothing for a value: all of them the same, told once.
	for _, e := range elems()[:3] {
		s := do(t, store.New(), brought(dot(0, 1), e, api.Value{}), brought(dot(1, 1), e, api.Value{}))
		if !same(s.Values(e), []api.Value{{}}) {
			t.Errorf("Values of %+v are %+v", e, s.Values(e))
		}
	}
}

// alike are elements that may be, rising, each of which differs from another one in Kind alone, or in A, B, C or D alone.
func alike() []api.Elem {
	l := []api.Elem{{Kind: api.ElemNode, A: "Z"}, {Kind: api.ElemNode, A: "a"}, {Kind: api.ElemNode, A: "aa"}, {Kind: api.ElemNode, A: "b"}}
	for _, kind := range []int{api.ElemLabel, api.ElemProp} {
		for _, a := range []string{"a", "b"} {
			for _, d := range []string{"p", "q"} {
				l = append(l, api.Elem{Kind: kind, A: a, D: d})
			}
		}
	}
	for _, kind := range []int{api.ElemEdge, api.ElemTrait} {
		for n := range 16 {
			names := [2]string{"a", "b"}
			e := api.Elem{Kind: kind, A: names[n/8], B: names[n/4%2], C: names[n/2%2]}
			if kind == api.ElemTrait {
				e.D = names[n%2]
			}
			if kind == api.ElemTrait || n%2 == 0 {
				l = append(l, e)
			}
		}
	}
	slices.SortStableFunc(l, func(a, b api.Elem) int { return a.Kind - b.Kind })
	return l
}

// TestAlikeP7_1: elements that differ in one part alone have entries of their own.
func TestAlikeP7_1(t *testing.T) {
	r := rand.New(rand.NewSource(9))
	mixed := alike()
	r.Shuffle(len(mixed), func(i, j int) { mixed[i], mixed[j] = mixed[j], mixed[i] })
	s, want := store.New(), &left{}
	for i, e := range mixed {
		// The same dot everywhere: what is one element's is no other one's.
		for _, ev := range []api.Event{brought(dot(0, 1), e, values()[i%8]), brought(dot(3, 2), e, values()[i%5])} {
			do(t, s, ev)
			want.do(ev)
			held(t, "behind what comes", s, want, alike()...)
		}
	}
	told := s.All()
	for i, e := range alike() {
		if told[i].Elem != e {
			t.Fatalf("element %d of All is %+v, not %+v", i, told[i].Elem, e)
		}
	}
	r.Shuffle(len(mixed), func(i, j int) { mixed[i], mixed[j] = mixed[j], mixed[i] })
	for _, e := range mixed {
		ev := gone(dot(9, 1), api.Vector{0: 1, 3: 2}, e)
		do(t, s, ev)
		want.do(ev)
		held(t, "behind what goes", s, want, alike()...)
	}
	if s.Len() != 0 {
		t.Errorf("%d entries are left", s.Len())
	}
}

// TestLastEntryP7_1: an element whose last entry goes isn't told any more, until one comes again.
func TestLastEntryP7_1(t *testing.T) {
	for _, e := range elems() {
		for name, last := range map[string]func(*store.Store){
			"an event": func(s *store.Store) { do(t, s, gone(dot(8, 1), api.Vector{0: 1, 3: 4}, e)) },
			"a Put":    func(s *store.Store) { put(t, s, e) },
		} {
			s, want := store.New(), &left{}
			for _, other := range elems() {
				put(t, s, other, dot(0, 1), dot(3, 4))
				want.put(store.Item{Elem: other, Entries: entries(other, dot(0, 1), dot(3, 4))})
			}
			last(s)
			want.put(store.Item{Elem: e})
			held(t, "the last entry went by "+name, s, want, elems()...)
			if s.Has(e) || len(s.All()) != len(elems())-1 {
				t.Errorf("%+v is there, though its last entry went by %s", e, name)
			}
			again := brought(dot(3, 5), e, values()[0])
			do(t, s, again)
			want.do(again)
			held(t, "one came again behind "+name, s, want, elems()...)
		}
	}
}

// TestAgainP7_1: an event that comes again has one entry, as before.
func TestAgainP7_1(t *testing.T) {
	for _, e := range elems() {
		s, want := store.New(), &left{}
		one, two := brought(dot(0, 1), e, values()[0]), brought(dot(1, 1), e, values()[2])
		for _, ev := range []api.Event{one, two, one, one, two} {
			do(t, s, ev)
			want.do(ev)
			held(t, "behind an event", s, want)
		}
		if s.Len() != 2 {
			t.Errorf("of two events there are %d entries", s.Len())
		}
	}
}

// broken are events each of which may not be for one reason.
func broken() map[string]api.Event {
	l := map[string]api.Event{"nothing": {}}
	for name, change := range map[string]func(*api.Event){
		"no Op":                          func(e *api.Event) { e.Op = 0 },
		"an OpAdd of a property":         func(e *api.Event) { e.Op, e.Value = api.OpAdd, api.Value{} },
		"an OpRemove of a property":      func(e *api.Event) { e.Op, e.Value = api.OpRemove, api.Value{} },
		"an OpClear with a value":        func(e *api.Event) { e.Op = api.OpClear },
		"an OpSet of a node":             func(e *api.Event) { e.Elem = elems()[0] },
		"an OpClear of a node":           func(e *api.Event) { e.Op, e.Elem, e.Value = api.OpClear, elems()[0], api.Value{} },
		"a replica of -1":                func(e *api.Event) { e.Dot.Replica = -1 },
		"a replica of 16":                func(e *api.Event) { e.Dot.Replica = api.MaxReplicas },
		"a Count of 0":                   func(e *api.Event) { e.Dot.Count, e.Past[2] = 0, -1 },
		"a Count above MaxCount":         func(e *api.Event) { e.Dot.Count, e.Past[2] = api.MaxCount+1, api.MaxCount },
		"a Past that knows one too few":  func(e *api.Event) { e.Past[2] = 3 },
		"a Past that knows one too many": func(e *api.Event) { e.Past[2] = 5 },
		"a Past of another replica":      func(e *api.Event) { e.Dot.Replica = 4 },
		"a Past below 0":                 func(e *api.Event) { e.Past[9] = -1 },
		"a Past above MaxCount":          func(e *api.Event) { e.Past[15] = api.MaxCount + 1 },
	} {
		e := made(dot(2, 5), api.Vector{0: 1, 3: 4}, api.OpSet, elems()[3], values()[4])
		change(&e)
		l[name] = e
	}
	return l
}

// TestDoWrongP7_1: an event that may not be is refused, and changes nothing.
func TestDoWrongP7_1(t *testing.T) {
	s, want := store.New(), &left{}
	for _, e := range elems() {
		put(t, s, e, dot(0, 1), dot(3, 4))
		want.put(store.Item{Elem: e, Entries: entries(e, dot(0, 1), dot(3, 4))})
	}
	for name, e := range broken() {
		if got := s.Do(e); got != api.ErrArg {
			t.Errorf("Do of %s is %d", name, got)
		}
		held(t, "behind "+name, s, want, elems()...)
	}
	for _, e := range wrongElems() {
		for _, op := range []int{api.OpAdd, api.OpRemove, api.OpSet, api.OpClear} {
			ev := made(dot(2, 5), api.Vector{0: 1, 3: 4}, op, e, api.Value{})
			if op == api.OpSet {
				ev.Value = values()[4]
			}
			if got := s.Do(ev); got != api.ErrArg {
				t.Errorf("Do(%+v) is %d", ev, got)
			}
		}
		if s.Has(e) || len(s.Entries(e)) != 0 || len(s.Values(e)) != 0 {
			t.Errorf("%+v has entries", e)
		}
	}
	held(t, "behind all wrong elements", s, want, elems()...)
}

func TestNilP7_1(t *testing.T) {
	var s *store.Store
	for _, e := range append(elems(), wrongElems()...) {
		if s.Has(e) || len(s.Entries(e)) != 0 || len(s.Values(e)) != 0 {
			t.Errorf("a nil store has entries of %+v", e)
		}
		if s.Put(store.Item{Elem: e}) != api.ErrArg || s.Put(store.Item{Elem: e, Entries: entries(e, dot(0, 1))}) != api.ErrArg {
			t.Errorf("Put to %+v of a nil store is OK", e)
		}
	}
	for _, e := range elems() {
		if s.Do(brought(dot(0, 1), e, values()[0])) != api.ErrArg || s.Do(gone(dot(0, 1), api.Vector{}, e)) != api.ErrArg {
			t.Errorf("Do of %+v of a nil store is OK", e)
		}
	}
	if s.Do(api.Event{}) != api.ErrArg || s.Put(store.Item{}) != api.ErrArg || s.Len() != 0 || len(s.All()) != 0 {
		t.Errorf("a nil store: Len %d, All %+v", s.Len(), s.All())
	}
}

// copied are items in memory of their own.
func copied(l []store.Item) []store.Item {
	var all []store.Item
	for _, i := range l {
		all = append(all, store.Item{Elem: i.Elem, Entries: slices.Clone(i.Entries)})
	}
	return all
}

// TestSharesNothingP7_1: answers hold after the store has changed, and the store after they have been changed.
func TestSharesNothingP7_1(t *testing.T) {
	for _, e := range elems() {
		s := store.New()
		for _, other := range elems() {
			put(t, s, other, dot(0, 1), dot(3, 4), dot(3, 5))
		}
		all, row, vals := s.All(), s.Entries(e), s.Values(e)
		allBefore, rowBefore, valsBefore := copied(all), slices.Clone(row), slices.Clone(vals)
		do(t, s, gone(dot(5, 1), api.Vector{0: 1, 3: 4}, e), brought(dot(0, 2), e, values()[9]), brought(dot(1, 1), e, values()[1]))
		do(t, s, brought(dot(6, 1), api.Elem{Kind: api.ElemNode, A: "A"}, api.Value{}))
		if !sameItems(all, allBefore) || !same(row, rowBefore) || !same(vals, valsBefore) {
			t.Fatalf("of %+v answers change with the store: %+v, %+v, %+v", e, all, row, vals)
		}
		allBefore, rowBefore, valsBefore = copied(s.All()), slices.Clone(s.Entries(e)), slices.Clone(s.Values(e))
		spoil(s.All(), s.Entries(e), s.Values(e))
		if !sameItems(s.All(), allBefore) || !same(s.Entries(e), rowBefore) || !same(s.Values(e), valsBefore) {
			t.Fatalf("of %+v the store changes with its answers", e)
		}
		// No two lists of one answer are one, the room behind them neither.
		for i := range s.All() {
			all := s.All()
			want := copied(all)
			_ = append(all[i].Entries, store.Entry{}, store.Entry{})
			clear(all[i].Entries)
			want[i].Entries = all[i].Entries
			if !sameItems(all, want) {
				t.Fatalf("of %+v lists of one answer share memory", e)
			}
		}
	}
}

// spoil changes all of some answers.
func spoil(all []store.Item, row []store.Entry, vals []api.Value) {
	for i := range all {
		clear(all[i].Entries)
		all[i].Elem = api.Elem{}
	}
	clear(row)
	clear(vals)
	_ = append(row, store.Entry{}, store.Entry{})
}

// some is an event that may be, on one of those elements, of few dots.
func some(r *rand.Rand, elems []api.Elem) api.Event {
	e := elems[r.Intn(len(elems))]
	d := dot(r.Intn(4)*5, 1+r.Intn(4))
	var past api.Vector
	for i := range past {
		past[i] = r.Intn(5)
	}
	if r.Intn(3) > 0 {
		ev := brought(d, e, values()[r.Intn(len(values()))])
		if ev.Past = past; r.Intn(2) == 0 {
			ev.Past = api.Vector{}
		}
		ev.Past[d.Replica] = d.Count - 1
		return ev
	}
	return gone(d, past, e)
}

// TestAllCallsP7_1 holds stores against another one behind many calls of no pattern.
func TestAllCallsP7_1(t *testing.T) {
	r := rand.New(rand.NewSource(10))
	pool := alike()
	for range 60 {
		s, want := store.New(), &left{}
		use := pool[:1+r.Intn(len(pool))]
		for range 60 {
			if r.Intn(6) > 0 {
				ev := some(r, use)
				do(t, s, ev)
				want.do(ev)
			} else {
				e := use[r.Intn(len(use))]
				i := store.Item{Elem: e, Entries: entries(e, []api.Dot{dot(0, 1+r.Intn(2)), dot(5, 1), dot(5, 3), dot(15, 2)}[:r.Intn(5)]...)}
				if err := s.Put(i); err != api.OK {
					t.Fatalf("Put(%+v) is %d", i, err)
				}
				want.put(i)
			}
			held(t, "behind some calls", s, want, use...)
		}
	}
}

// TestNoPanicP5 asks all calls at arguments of all sorts: a panic fails it, and so does what doesn't end.
func TestNoPanicP5(t *testing.T) {
	r := rand.New(rand.NewSource(5))
	nums := []int{math.MinInt, -1 << 62, -1, 0, 1, 2, 3, 4, 5, 6, 15, 16, api.MaxCount, api.MaxCount + 1, api.MaxNum, 1 << 62, math.MaxInt}
	says := []string{"", "a", "K", "a>K>b", "a b", "\x00", "\xff\xfe", "é", strings.Repeat("n", 17), strings.Repeat("x", 65), strings.Repeat("z", 1<<16)}
	num := func() int { return nums[r.Intn(len(nums))] }
	say := func() string { return says[r.Intn(len(says))] }
	elem := func() api.Elem {
		if r.Intn(2) == 0 {
			return elems()[r.Intn(len(elems()))]
		}
		return api.Elem{Kind: num(), A: say(), B: say(), C: say(), D: say()}
	}
	stores := []*store.Store{nil, {}, store.New()}
	for range 20000 {
		s := stores[r.Intn(len(stores))]
		before := s.All()
		v := api.Value{Kind: num(), Num: num(), Text: say()}
		e := api.Event{Dot: api.Dot{Replica: num(), Count: num()}, Op: num(), Elem: elem(), Value: v}
		for i := range e.Past {
			e.Past[i] = num()
		}
		i := store.Item{Elem: elem()}
		for range r.Intn(3) {
			i.Entries = append(i.Entries, store.Entry{Dot: api.Dot{Replica: num(), Count: num()}, Value: v})
		}
		if s.Do(e) != api.OK && s.Put(i) != api.OK && !sameItems(s.All(), before) {
			t.Fatalf("refused calls change a store: %+v, %+v", e, i)
		}
		if got := s.Has(i.Elem); got != (len(s.Entries(i.Elem)) > 0) || got != (len(s.Values(i.Elem)) > 0) || s.Len() < len(s.Entries(i.Elem)) {
			t.Fatalf("Has of %+v is %v", i.Elem, got)
		}
		if c := store.Order(e.Elem, i.Elem); c != -store.Order(i.Elem, e.Elem) || (c == 0) != reflect.DeepEqual(e.Elem, i.Elem) {
			t.Fatalf("Order of %+v and %+v is %d", e.Elem, i.Elem, c)
		}
	}
}
