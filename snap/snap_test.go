package snap_test

import (
	"fmt"
	"maps"
	"math"
	"slices"
	"strconv"
	"strings"
	"testing"

	"hedgerow/api"
	"hedgerow/snap"
	"hedgerow/store"
)

// mostItems and mostEvents are the chapter's.
const mostItems, mostEvents = 100000, 100000

// dot is a dot.
func dot(replica, count int) api.Dot { return api.Dot{Replica: replica, Count: count} }

// bare is an entry of what has no values.
func bare(replica, count int) store.Entry { return store.Entry{Dot: dot(replica, count)} }

// valued is an entry of a property or trait.
func valued(replica, count int, v api.Value) store.Entry {
	return store.Entry{Dot: dot(replica, count), Value: v}
}

// yes, number and text are values of the three kinds that may be set.
func yes() api.Value { return api.Value{Kind: api.Bool, Num: 1} }

func number(n int) api.Value { return api.Value{Kind: api.Int, Num: n} }

func text(s string) api.Value { return api.Value{Kind: api.Text, Text: s} }

// elems are one of each kind, and more, rising.
func elems() []api.Elem {
	name := strings.Repeat("n", api.MaxName)
	return []api.Elem{
		{Kind: api.ElemNode, A: "a"},
		{Kind: api.ElemNode, A: "b"},
		{Kind: api.ElemNode, A: name},
		{Kind: api.ElemLabel, A: "a", D: "P"},
		{Kind: api.ElemLabel, A: "a", D: name},
		{Kind: api.ElemEdge, A: "a", B: "a", C: "K"},
		{Kind: api.ElemEdge, A: "a", B: "b", C: "K"},
		{Kind: api.ElemEdge, A: "a", B: "b", C: "L"},
		{Kind: api.ElemProp, A: "a", D: "p"},
		{Kind: api.ElemProp, A: name, D: name},
		{Kind: api.ElemTrait, A: "a", B: "b", C: "K", D: "t"},
		{Kind: api.ElemTrait, A: name, B: name, C: name, D: name},
	}
}

// event is an event that may be: the count-th one of a replica, that knows nothing of others.
func event(replica, count, op int, e api.Elem, v api.Value) api.Event {
	past := api.Vector{}
	past[replica] = count - 1
	return api.Event{Dot: dot(replica, count), Past: past, Op: op, Elem: e, Value: v}
}

// full is a snapshot that may be, in which each kind of all things stands.
func full() snap.Snap {
	l := elems()
	s := snap.Snap{
		Known: api.Vector{0: 3, 1: 300, 2: 5, 15: api.MaxCount},
		Items: []store.Item{
			{Elem: l[0], Entries: []store.Entry{bare(0, 1)}},
			{Elem: l[1], Entries: []store.Entry{bare(0, 1), bare(0, 3), bare(2, 5), bare(15, 1), bare(15, api.MaxCount)}},
			{Elem: l[3], Entries: []store.Entry{bare(1, 127), bare(1, 128), bare(1, 300)}},
			{Elem: l[6], Entries: []store.Entry{bare(0, 2)}},
			{Elem: l[8], Entries: []store.Entry{
				valued(0, 1, api.Value{Kind: api.Bool}), valued(0, 2, yes()), valued(1, 1, number(0)), valued(1, 2, number(-1)), valued(1, 3, number(63)),
				valued(1, 4, number(64)), valued(1, 5, number(-64)), valued(1, 6, number(-65)), valued(1, 7, number(api.MaxNum)), valued(1, 8, number(-api.MaxNum)),
				valued(2, 1, text("")), valued(2, 2, text(`it's \ ~`)), valued(2, 3, text(strings.Repeat("x", api.MaxText))), valued(2, 4, text("")),
			}},
			{Elem: l[11], Entries: []store.Entry{valued(15, 9, text("as"))}},
		},
		Events: []api.Event{
			event(1, 300, api.OpRemove, l[2], api.Value{}),
			event(0, 1, api.OpAdd, l[4], api.Value{}),
			event(15, api.MaxCount, api.OpSet, l[9], number(-300)),
			event(2, 2, api.OpClear, l[10], api.Value{}),
			event(2, 1, api.OpSet, l[10], text("it's")),
		},
	}
	s.Events[4].Past = api.Vector{0: api.MaxCount, 9: 128}
	return s
}

// copied is a snapshot in memory of its own.
func copied(s snap.Snap) snap.Snap {
	s.Items, s.Events = slices.Clone(s.Items), slices.Clone(s.Events)
	for i := range s.Items {
		s.Items[i].Entries = slices.Clone(s.Items[i].Entries)
	}
	return s
}

// same asks whether snapshots are the same, as the chapter says it.
func same(a, b snap.Snap) bool {
	if a.Known != b.Known || len(a.Items) != len(b.Items) || len(a.Events) != len(b.Events) {
		return false
	}
	for i := range a.Events {
		if a.Events[i] != b.Events[i] {
			return false
		}
	}
	return sameItems(a.Items, b.Items)
}

// brief is the beginning of a snapshot's text: some are very long.
func brief(s snap.Snap) string {
	s.Items, s.Events = s.Items[:min(len(s.Items), 9)], s.Events[:min(len(s.Events), 9)]
	return fmt.Sprintf("%+v", s)
}

// sameItems asks whether rows of items are the same.
func sameItems(a, b []store.Item) bool {
	return slices.EqualFunc(a, b, func(a, b store.Item) bool {
		return a.Elem == b.Elem && len(a.Entries) == len(b.Entries) && slices.Equal(a.Entries, b.Entries)
	})
}

// changed are copies of a snapshot that may be, each changed by a call.
func changed(by map[string]func(*snap.Snap)) map[string]snap.Snap {
	l := map[string]snap.Snap{}
	for name, change := range by {
		s := full()
		change(&s)
		l[name] = s
	}
	return l
}

// named are items of so many nodes, rising.
func named(n int) []store.Item {
	var l []store.Item
	for i := range n {
		key := "n" + strconv.Itoa(1000000+i)
		l = append(l, store.Item{Elem: api.Elem{Kind: api.ElemNode, A: key}, Entries: []store.Entry{bare(0, 1)}})
	}
	return l
}

// right are snapshots that may be.
func right() map[string]snap.Snap {
	l := changed(map[string]func(*snap.Snap){
		"nothing":                   func(s *snap.Snap) { *s = snap.Snap{} },
		"empty rows":                func(s *snap.Snap) { *s = snap.Snap{Items: []store.Item{}, Events: []api.Event{}} },
		"a vector alone":            func(s *snap.Snap) { s.Items, s.Events = nil, nil },
		"no items":                  func(s *snap.Snap) { s.Items = nil },
		"no events":                 func(s *snap.Snap) { s.Events = nil },
		"all":                       func(s *snap.Snap) {},
		"events of two orders":      func(s *snap.Snap) { slices.Reverse(s.Events) },
		"an event twice":            func(s *snap.Snap) { s.Events = append(s.Events, s.Events[0]) },
		"an event of no order":      func(s *snap.Snap) { s.Events[1].Past[3] = 77 },
		"a dot of two items":        func(s *snap.Snap) { s.Items[0].Entries[0].Dot = dot(0, 2) },
		"an event that is undone":   func(s *snap.Snap) { s.Events[0].Elem = s.Items[0].Elem },
		"more known than there is":  func(s *snap.Snap) { s.Known[7] = api.MaxCount },
		"an item of the last one":   func(s *snap.Snap) { s.Items = s.Items[5:] },
		"a vector of the most":      func(s *snap.Snap) { s.Known = vectorOf(api.MaxCount) },
		"a value that is set twice": func(s *snap.Snap) { s.Items[4].Entries[1].Value = s.Items[4].Entries[0].Value },
		"names of unlike lengths":   func(s *snap.Snap) { s.Items[0].Elem.A = "A1_b" },
		"a Past of all that may be": func(s *snap.Snap) { s.Events[1].Past = api.Vector{1: api.MaxCount, 15: api.MaxCount} },
		"each kind of elements, alone": func(s *snap.Snap) {
			s.Items = slices.DeleteFunc(s.Items, func(i store.Item) bool { return i.Elem.Kind < 4 })
		},
	})
	most := snap.Snap{Known: api.Vector{1}, Items: named(mostItems)}
	for range mostEvents {
		most.Events = append(most.Events, event(0, 1, api.OpAdd, elems()[0], api.Value{}))
	}
	l["the most of both"] = most
	return l
}

// vectorOf is a vector of one number.
func vectorOf(n int) api.Vector {
	var v api.Vector
	for i := range v {
		v[i] = n
	}
	return v
}

// wrongRows are snapshots that may not be for their vector, or for how their items and entries stand.
func wrongRows() map[string]snap.Snap {
	return changed(map[string]func(*snap.Snap){
		"a vector above MaxCount":             func(s *snap.Snap) { s.Known[7] = api.MaxCount + 1 },
		"a vector far above MaxCount":         func(s *snap.Snap) { s.Known[0] = 1<<62 - 1 },
		"a vector above MaxCount, at the end": func(s *snap.Snap) { s.Known[15] = api.MaxCount + 1 },
		"such a vector alone":                 func(s *snap.Snap) { *s = snap.Snap{Known: api.Vector{3: api.MaxCount + 1}} },
		"an item twice":                       func(s *snap.Snap) { s.Items = slices.Insert(s.Items, 3, s.Items[3]) },
		"the first item twice":                func(s *snap.Snap) { s.Items = slices.Insert(s.Items, 0, s.Items[0]) },
		"the last item twice":                 func(s *snap.Snap) { s.Items = append(s.Items, s.Items[5]) },
		"items that fall":                     func(s *snap.Snap) { slices.Reverse(s.Items) },
		"two items that fall":                 func(s *snap.Snap) { s.Items[2], s.Items[3] = s.Items[3], s.Items[2] },
		"the last items fall":                 func(s *snap.Snap) { s.Items[4], s.Items[5] = s.Items[5], s.Items[4] },
		"items that fall by a type": func(s *snap.Snap) {
			s.Items[3].Elem = elems()[7]
			s.Items = slices.Insert(s.Items, 4, store.Item{Elem: elems()[6], Entries: s.Items[3].Entries})
		},
		"an item without entries":               func(s *snap.Snap) { s.Items[2].Entries = nil },
		"an item with an empty row of entries":  func(s *snap.Snap) { s.Items[5].Entries = []store.Entry{} },
		"no entries in the only item":           func(s *snap.Snap) { s.Items, s.Events = []store.Item{{Elem: elems()[0]}}, nil },
		"a dot that isn't known":                func(s *snap.Snap) { s.Items[0].Entries[0].Dot = dot(0, 4) },
		"a last dot that isn't known":           func(s *snap.Snap) { s.Items[2].Entries[2].Dot = dot(1, 301) },
		"a dot of one that nothing is known of": func(s *snap.Snap) { s.Items[0].Entries[0].Dot = dot(3, 1) },
		"a dot of no replica":                   func(s *snap.Snap) { s.Items[0].Entries[0].Dot = dot(16, 1) },
		"a dot of Count 0":                      func(s *snap.Snap) { s.Items[0].Entries[0].Dot = dot(0, 0) },
		"a dot above MaxCount":                  func(s *snap.Snap) { s.Items[1].Entries[4].Dot = dot(15, api.MaxCount+1) },
		"a dot twice":                           func(s *snap.Snap) { s.Items[1].Entries[1].Dot = dot(0, 1) },
		"dots that fall":                        func(s *snap.Snap) { slices.Reverse(s.Items[1].Entries) },
		"dots by Count ahead of Replica":        func(s *snap.Snap) { s.Items[1].Entries = []store.Entry{bare(15, 1), bare(0, 2)} },
	})
}

// wrongItems are snapshots that may not be for an element, or a value.
func wrongItems() map[string]snap.Snap {
	return changed(map[string]func(*snap.Snap){
		"a value of a node":               func(s *snap.Snap) { s.Items[0].Entries[0].Value = yes() },
		"a value of a label":              func(s *snap.Snap) { s.Items[2].Entries[1].Value = text("") },
		"a value of an edge":              func(s *snap.Snap) { s.Items[3].Entries[0].Value = number(0) },
		"a Null of a property":            func(s *snap.Snap) { s.Items[4].Entries[3].Value = api.Value{} },
		"a Null of a trait":               func(s *snap.Snap) { s.Items[5].Entries[0].Value = api.Value{} },
		"a Node of a property":            func(s *snap.Snap) { s.Items[4].Entries[0].Value = api.Value{Kind: api.Node, Text: "a"} },
		"an Edge of a property":           func(s *snap.Snap) { s.Items[4].Entries[0].Value = api.Value{Kind: api.Edge, Text: "a>K>b"} },
		"a Bool of 2":                     func(s *snap.Snap) { s.Items[4].Entries[0].Value.Num = 2 },
		"an Int above MaxNum":             func(s *snap.Snap) { s.Items[4].Entries[8].Value.Num++ },
		"an Int below -MaxNum":            func(s *snap.Snap) { s.Items[4].Entries[9].Value.Num-- },
		"an Int with a text":              func(s *snap.Snap) { s.Items[4].Entries[8].Value.Text = "1" },
		"a text of 65 bytes":              func(s *snap.Snap) { s.Items[4].Entries[12].Value.Text += "x" },
		"a text of other bytes":           func(s *snap.Snap) { s.Items[5].Entries[0].Value.Text = "é" },
		"a value of kind 6":               func(s *snap.Snap) { s.Items[5].Entries[0].Value.Kind = 6 },
		"a number of a Null":              func(s *snap.Snap) { s.Items[0].Entries[0].Value.Num = 1 },
		"an element of no kind":           func(s *snap.Snap) { s.Items[0].Elem = api.Elem{A: "a"} },
		"an element of kind 6":            func(s *snap.Snap) { s.Items[5].Elem.Kind = 6 },
		"an element of the greatest kind": func(s *snap.Snap) { s.Items[5].Elem.Kind = 1<<62 - 1 },
		"a key that is none":              func(s *snap.Snap) { s.Items[0].Elem.A = "9" },
		"no key":                          func(s *snap.Snap) { s.Items[0].Elem.A = "" },
		"a key of 17 bytes":               func(s *snap.Snap) { s.Items[5].Elem.A += "n" },
		"a name too many":                 func(s *snap.Snap) { s.Items[0].Elem.B = "b" },
		"a name too few":                  func(s *snap.Snap) { s.Items[3].Elem.C = "" },
		"a very long name":                func(s *snap.Snap) { s.Items[5].Elem.D = strings.Repeat("n", 1<<16) },
	})
}

// wrongEvents are snapshots that may not be for an event.
func wrongEvents() map[string]snap.Snap {
	return changed(map[string]func(*snap.Snap){
		"an event that isn't known":         func(s *snap.Snap) { s.Events[0] = event(1, 301, api.OpAdd, elems()[0], api.Value{}) },
		"a last event that isn't known":     func(s *snap.Snap) { s.Events[4] = event(3, 1, api.OpAdd, elems()[0], api.Value{}) },
		"an event of a Past of another dot": func(s *snap.Snap) { s.Events[0].Past[1] = 298 },
		"an event that knows itself":        func(s *snap.Snap) { s.Events[0].Past[1] = 300 },
		"an event whose Past is too great":  func(s *snap.Snap) { s.Events[3].Past[4] = api.MaxCount + 1 },
		"an event of Count 0":               func(s *snap.Snap) { s.Events[1].Dot.Count = 0 },
		"an event of replica 16":            func(s *snap.Snap) { s.Events[1].Dot.Replica = 16 },
		"an event of no Op":                 func(s *snap.Snap) { s.Events[1].Op = 0 },
		"an event of Op 5":                  func(s *snap.Snap) { s.Events[4].Op = 5 },
		"an OpSet of a label":               func(s *snap.Snap) { s.Events[1].Op = api.OpSet },
		"an OpAdd of a property":            func(s *snap.Snap) { s.Events[2].Op, s.Events[2].Value = api.OpAdd, api.Value{} },
		"an OpSet to nothing":               func(s *snap.Snap) { s.Events[2].Value = api.Value{} },
		"an OpSet to a node":                func(s *snap.Snap) { s.Events[2].Value = api.Value{Kind: api.Node, Text: "a"} },
		"an OpClear with a value":           func(s *snap.Snap) { s.Events[3].Value = yes() },
		"an event of no element":            func(s *snap.Snap) { s.Events[2].Elem = api.Elem{} },
		"an event of a key that is none":    func(s *snap.Snap) { s.Events[2].Elem.A = "a b" },
		"an event of nothing":               func(s *snap.Snap) { s.Events[2] = api.Event{} },
		"an event of nothing alone":         func(s *snap.Snap) { *s = snap.Snap{Events: make([]api.Event, 1)} },
	})
}

// wrong are snapshots that may not be, each for one reason, and no other; all numbers of them have bytes.
func wrong() map[string]snap.Snap {
	l := wrongRows()
	maps.Copy(l, wrongItems())
	maps.Copy(l, wrongEvents())
	l["an item too many"] = snap.Snap{Known: api.Vector{1}, Items: named(mostItems + 1)}
	most := snap.Snap{Known: api.Vector{1}}
	for range mostEvents + 1 {
		most.Events = append(most.Events, event(0, 1, api.OpAdd, elems()[0], api.Value{}))
	}
	l["an event too many"] = most
	return l
}

// unlaid are snapshots that may not be, of which a number has no bytes.
func unlaid() map[string]snap.Snap {
	return changed(map[string]func(*snap.Snap){
		"a vector below 0":           func(s *snap.Snap) { s.Known[7] = -1 },
		"a vector far below 0":       func(s *snap.Snap) { s.Known[0] = math.MinInt },
		"the greatest vector":        func(s *snap.Snap) { s.Known[15] = math.MaxInt },
		"an element below 0":         func(s *snap.Snap) { s.Items[0].Elem.Kind = -1 },
		"a replica below 0":          func(s *snap.Snap) { s.Items[0].Entries[0].Dot = dot(-1, 1) },
		"a Count below 0":            func(s *snap.Snap) { s.Items[0].Entries[0].Dot = dot(0, math.MinInt) },
		"the greatest Count":         func(s *snap.Snap) { s.Items[0].Entries[0].Dot = dot(0, math.MaxInt) },
		"a value below 0":            func(s *snap.Snap) { s.Items[4].Entries[0].Value.Kind = -1 },
		"the least Int":              func(s *snap.Snap) { s.Items[4].Entries[8].Value.Num = math.MinInt },
		"the greatest Int":           func(s *snap.Snap) { s.Items[4].Entries[8].Value.Num = math.MaxInt },
		"an event of Op -1":          func(s *snap.Snap) { s.Events[0].Op = -1 },
		"an event of a Past below 0": func(s *snap.Snap) { s.Events[0].Past[2] = -1 },
		"an event of replica -1":     func(s *snap.Snap) { s.Events[0].Dot.Replica = -1 },
	})
}

func TestRightP12_1(t *testing.T) {
	for name, s := range right() {
		if err := snap.Right(s); err != api.OK {
			t.Errorf("Right of %s is %d", name, err)
		}
	}
	for _, l := range []map[string]snap.Snap{wrong(), unlaid()} {
		for name, s := range l {
			if err := snap.Right(s); err != api.ErrArg {
				t.Errorf("Right of %s is %d", name, err)
			}
		}
	}
}

// TestRightOfEachElementP12_1 asks for an item of each element alone, and for each two of them in each order.
func TestRightOfEachElementP12_1(t *testing.T) {
	item := func(e api.Elem) store.Item {
		x := bare(0, 1)
		if e.Kind == api.ElemProp || e.Kind == api.ElemTrait {
			x.Value = yes()
		}
		return store.Item{Elem: e, Entries: []store.Entry{x}}
	}
	for i, e := range elems() {
		if err := snap.Right(snap.Snap{Known: api.Vector{1}, Items: []store.Item{item(e)}}); err != api.OK {
			t.Errorf("Right of an item of %+v is %d", e, err)
		}
		if err := snap.Right(snap.Snap{Items: []store.Item{item(e)}}); err != api.ErrArg {
			t.Errorf("Right of an item of %+v whose dot isn't known is %d", e, err)
		}
		for j, other := range elems() {
			want := api.ErrArg
			if i < j {
				want = api.OK
			}
			if err := snap.Right(snap.Snap{Known: api.Vector{1}, Items: []store.Item{item(e), item(other)}}); err != want {
				t.Errorf("Right of items of %+v and %+v is %d", e, other, err)
			}
		}
	}
}

// puttable tells the store's items that a snapshot's come to: those that a store takes, in order.
func puttable(s snap.Snap) []store.Item {
	want := store.New()
	for _, i := range s.Items {
		want.Put(i)
	}
	return want.All()
}

func TestStoreP12_1(t *testing.T) {
	for name, s := range right() {
		if got := snap.Store(s).All(); !sameItems(got, s.Items) {
			t.Errorf("the store of %s has %d items", name, len(got))
		}
	}
	for _, l := range []map[string]snap.Snap{wrong(), unlaid()} {
		for name, s := range l {
			if got := snap.Store(s); got == nil || !sameItems(got.All(), puttable(s)) {
				t.Errorf("the store of %s has %d entries", name, got.Len())
			}
		}
	}
	if s := snap.Store(snap.Snap{}); s == nil || s.Len() != 0 || s.Do(event(0, 1, api.OpAdd, elems()[0], api.Value{})) != api.OK {
		t.Error("the store of nothing takes no event")
	}
}

// TestStoreOfWrongOnesP12_1 names what is left of items of which some may not be put.
func TestStoreOfWrongOnesP12_1(t *testing.T) {
	l := elems()
	a, b, p := l[0], l[1], l[8]
	s := snap.Snap{
		Known: vectorOf(-1),
		Items: []store.Item{
			{Elem: p, Entries: []store.Entry{valued(0, 1, yes())}},
			{Elem: p, Entries: []store.Entry{valued(0, 1, api.Value{})}},
			{Elem: b, Entries: []store.Entry{bare(0, 1), bare(0, 2)}},
			{Elem: a, Entries: []store.Entry{bare(0, 2), bare(0, 1)}},
			{Elem: api.Elem{Kind: api.ElemNode, A: "9"}, Entries: []store.Entry{bare(0, 1)}},
			{Elem: l[2], Entries: []store.Entry{bare(3, 9)}},
			{Elem: l[2]},
			{Elem: b, Entries: []store.Entry{bare(7, 7)}},
			{Elem: a, Entries: []store.Entry{bare(16, 1)}},
		},
		Events: []api.Event{{}, event(0, 1, api.OpAdd, a, api.Value{})},
	}
	want := []store.Item{{Elem: b, Entries: []store.Entry{bare(7, 7)}}, {Elem: p, Entries: []store.Entry{valued(0, 1, yes())}}}
	if got := snap.Store(s).All(); !sameItems(got, want) {
		t.Errorf("the store has %+v", got)
	}
}

// TestStoreSharesNothingP12_1: what comes to a store changes no snapshot, and what comes to a snapshot no store.
func TestStoreSharesNothingP12_1(t *testing.T) {
	s, want := full(), full()
	kept := snap.Store(s)
	for i, e := range elems()[:8] {
		kept.Do(event(9, i+1, api.OpRemove, e, api.Value{}))
		kept.Do(event(8, i+1, api.OpAdd, e, api.Value{}))
	}
	if !same(s, want) {
		t.Error("what a store does changes the snapshot")
	}
	kept = snap.Store(s)
	for i := range s.Items {
		clear(s.Items[i].Entries)
	}
	clear(s.Items)
	if !sameItems(kept.All(), want.Items) || !sameItems(snap.Store(want).All(), want.Items) {
		t.Error("what is done to a snapshot changes the store")
	}
}

// others are snapshots unlike full in one thing.
func others() map[string]snap.Snap {
	return changed(map[string]func(*snap.Snap){
		"the first number":         func(s *snap.Snap) { s.Known[0]++ },
		"the last number":          func(s *snap.Snap) { s.Known[15]-- },
		"an item less":             func(s *snap.Snap) { s.Items = s.Items[:5] },
		"the first item less":      func(s *snap.Snap) { s.Items = s.Items[1:] },
		"no items":                 func(s *snap.Snap) { s.Items = nil },
		"an item more":             func(s *snap.Snap) { s.Items = append(s.Items, store.Item{}) },
		"items in another order":   func(s *snap.Snap) { s.Items[0], s.Items[1] = s.Items[1], s.Items[0] },
		"a kind":                   func(s *snap.Snap) { s.Items[2].Elem.Kind++ },
		"A":                        func(s *snap.Snap) { s.Items[2].Elem.A = "b" },
		"B":                        func(s *snap.Snap) { s.Items[3].Elem.B = "c" },
		"C":                        func(s *snap.Snap) { s.Items[3].Elem.C = "L" },
		"D":                        func(s *snap.Snap) { s.Items[5].Elem.D = "t" },
		"an entry less":            func(s *snap.Snap) { s.Items[1].Entries = s.Items[1].Entries[:4] },
		"an entry more":            func(s *snap.Snap) { s.Items[5].Entries = append(s.Items[5].Entries, valued(15, 10, yes())) },
		"no entries":               func(s *snap.Snap) { s.Items[5].Entries = nil },
		"entries in another order": func(s *snap.Snap) { slices.Reverse(s.Items[1].Entries) },
		"a dot's Replica":          func(s *snap.Snap) { s.Items[5].Entries[0].Dot.Replica = 0 },
		"a dot's Count":            func(s *snap.Snap) { s.Items[5].Entries[0].Dot.Count = 10 },
		"a value's Kind":           func(s *snap.Snap) { s.Items[4].Entries[0].Value.Kind = api.Int },
		"a value's Num":            func(s *snap.Snap) { s.Items[4].Entries[0].Value.Num = 1 },
		"a value's Text":           func(s *snap.Snap) { s.Items[4].Entries[13].Value.Text = " " },
		"an event less":            func(s *snap.Snap) { s.Events = s.Events[:4] },
		"no events":                func(s *snap.Snap) { s.Events = nil },
		"an event more":            func(s *snap.Snap) { s.Events = append(s.Events, api.Event{}) },
		"events in another order":  func(s *snap.Snap) { s.Events[3], s.Events[4] = s.Events[4], s.Events[3] },
		"an event's Replica":       func(s *snap.Snap) { s.Events[1].Dot.Replica = 1 },
		"an event's Count":         func(s *snap.Snap) { s.Events[1].Dot.Count = 2 },
		"an event's Past":          func(s *snap.Snap) { s.Events[4].Past[9]++ },
		"an event's Op":            func(s *snap.Snap) { s.Events[1].Op = api.OpRemove },
		"an event's element":       func(s *snap.Snap) { s.Events[1].Elem.D = "P" },
		"an event's value":         func(s *snap.Snap) { s.Events[2].Value.Num++ },
	})
}

func TestSameP12_1(t *testing.T) {
	all := map[string]snap.Snap{"itself": full(), "nothing": {}}
	for _, l := range []map[string]snap.Snap{others(), wrong(), unlaid()} {
		for name, s := range l {
			if s := copied(s); len(s.Items) < 100 && len(s.Events) < 100 {
				all[name] = s
			}
		}
	}
	for one, a := range all {
		if !snap.Same(a, copied(a)) {
			t.Errorf("%s isn't the same as its copy", one)
		}
		for other, b := range all {
			if got := snap.Same(a, b); got != same(a, b) {
				t.Errorf("Same of %s and %s is %v", one, other, got)
			}
		}
	}
	for name, s := range others() {
		if snap.Same(full(), s) || snap.Same(s, full()) {
			t.Errorf("that with another thing (%s) is the same", name)
		}
	}
	// Nil and empty are one.
	if !snap.Same(snap.Snap{}, snap.Snap{Items: []store.Item{}, Events: []api.Event{}}) {
		t.Error("empty rows aren't the same as nil ones")
	}
	a, b := snap.Snap{Items: []store.Item{{}}}, snap.Snap{Items: []store.Item{{Entries: []store.Entry{}}}}
	if !snap.Same(a, b) || !snap.Same(b, a) {
		t.Error("an empty row of entries isn't the same as a nil one")
	}
}
