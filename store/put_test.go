package store_test

import (
	"cmp"
	"math"
	"slices"
	"testing"

	"hedgerow/api"
	"hedgerow/store"
)

// TestPutP7_1: an item's entries stand in place of those that were there, whatever these were; without any, its element has none.
func TestPutP7_1(t *testing.T) {
	rows := [][]api.Dot{
		nil,
		{dot(0, 1)},
		{dot(15, api.MaxCount)},
		{dot(0, 1), dot(0, 2)},
		{dot(0, 2), dot(1, 1)},
		{dot(0, api.MaxCount), dot(1, 1), dot(1, 2), dot(7, 7), dot(15, 1), dot(15, api.MaxCount)},
	}
	for _, e := range elems() {
		for _, before := range rows {
			for _, behind := range rows {
				s, want := store.New(), &left{}
				for _, other := range alike() {
					put(t, s, other, dot(0, 1), dot(9, 9))
					want.put(store.Item{Elem: other, Entries: entries(other, dot(0, 1), dot(9, 9))})
				}
				put(t, s, e, before...)
				put(t, s, e, behind...)
				want.put(store.Item{Elem: e, Entries: entries(e, behind...)})
				held(t, "behind a Put", s, want, e)
			}
		}
		// Nil and empty are one.
		s := put(t, store.New(), e, dot(0, 1))
		if err := s.Put(store.Item{Elem: e, Entries: []store.Entry{}}); err != api.OK || s.Has(e) || s.Len() != 0 {
			t.Errorf("behind no entries of %+v there are %d, error %d", e, s.Len(), err)
		}
	}
}

// TestPutThenDoP7_1: what was put goes and stays as what was done does.
func TestPutThenDoP7_1(t *testing.T) {
	for _, e := range elems() {
		s := put(t, store.New(), e, dot(0, 1), dot(2, 3))
		do(t, s, gone(dot(1, 1), api.Vector{0: 1, 2: 2}, e), brought(dot(1, 2), e, values()[6]))
		want := append(entries(e, dot(2, 3)), store.Entry{Dot: dot(1, 2)})
		slices.SortFunc(want, func(a, b store.Entry) int { return a.Dot.Replica - b.Dot.Replica })
		if valued(e) {
			want[0].Value = values()[6]
		}
		if got := s.Entries(e); !same(got, want) {
			t.Errorf("of %+v there are %+v, not %+v", e, got, want)
		}
	}
}

// TestPutOfAllP7_1: a store that is put all items of another one is as that one.
func TestPutOfAllP7_1(t *testing.T) {
	s, want := store.New(), &left{}
	for i, e := range alike() {
		ev := brought(dot(i%16, 1+i%3), e, values()[i%len(values())])
		do(t, s, ev)
		want.do(ev)
	}
	twin := store.New()
	all := s.All()
	slices.Reverse(all)
	for _, i := range all {
		if err := twin.Put(i); err != api.OK {
			t.Fatalf("Put(%+v) is %d", i, err)
		}
	}
	spoil(all, nil, nil)
	held(t, "behind all items", twin, want)
	held(t, "whose items were put", s, want)
}

// refuses holds a store against an item that may not be: it is refused, and changes nothing.
func refuses(t *testing.T, name string, i store.Item) {
	t.Helper()
	for _, there := range [][]api.Dot{nil, {dot(0, 1), dot(3, 4)}} {
		s, want := store.New(), &left{}
		for _, e := range elems() {
			put(t, s, e, there...)
			want.put(store.Item{Elem: e, Entries: entries(e, there...)})
		}
		if got := s.Put(i); got != api.ErrArg {
			t.Errorf("Put of %s: %+v is %d", name, i, got)
		}
		held(t, "behind "+name, s, want, elems()...)
	}
}

func TestPutWrongElemP7_1(t *testing.T) {
	refuses(t, "nothing", store.Item{})
	for _, e := range wrongElems() {
		refuses(t, "an element that may not be, without entries", store.Item{Elem: e})
		refuses(t, "an element that may not be", store.Item{Elem: e, Entries: []store.Entry{{Dot: dot(0, 1)}}})
		refuses(t, "an element that may not be, with a value", store.Item{Elem: e, Entries: []store.Entry{{Dot: dot(0, 1), Value: values()[4]}}})
	}
}

// TestPutDotsP7_1: dots that may be and rise are taken, others aren't, wherever they stand.
func TestPutDotsP7_1(t *testing.T) {
	wrong := map[string][]api.Dot{
		"no dot":                             {{}},
		"a replica of -1":                    {dot(-1, 1)},
		"a replica of 16":                    {dot(api.MaxReplicas, 1)},
		"the least replica":                  {dot(math.MinInt, 1)},
		"the greatest replica":               {dot(math.MaxInt, 1)},
		"a Count of 0":                       {dot(3, 0)},
		"a Count of -1":                      {dot(3, -1)},
		"a Count above MaxCount":             {dot(3, api.MaxCount+1)},
		"the least Count":                    {dot(3, math.MinInt)},
		"the greatest Count":                 {dot(3, math.MaxInt)},
		"a first dot that may not be":        {dot(0, 0), dot(0, 1), dot(1, 1)},
		"a dot between that may not be":      {dot(0, 1), dot(1, 0), dot(1, 1)},
		"a last dot that may not be":         {dot(0, 1), dot(1, 1), dot(16, 1)},
		"a last dot above MaxCount":          {dot(0, 1), dot(15, api.MaxCount), dot(15, api.MaxCount+1)},
		"the same dots":                      {dot(4, 2), dot(4, 2)},
		"the same dots at the end":           {dot(0, 1), dot(4, 2), dot(4, 2)},
		"the same dots at the beginning":     {dot(0, 1), dot(0, 1), dot(4, 2)},
		"falling Counts":                     {dot(4, 3), dot(4, 2)},
		"falling Replicas":                   {dot(5, 1), dot(4, 1)},
		"falling Replicas of rising Counts":  {dot(5, 1), dot(4, 2)},
		"a last one that falls":              {dot(0, 1), dot(4, 1), dot(4, 2), dot(3, 9)},
		"a dot again, but not side by side":  {dot(0, 1), dot(4, 1), dot(0, 1)},
		"dots by Count, and then by Replica": {dot(0, 1), dot(1, 1), dot(0, 2)},
	}
	for name, dots := range wrong {
		for _, e := range elems() {
			i := store.Item{Elem: e}
			for _, d := range dots {
				x := store.Entry{Dot: d}
				if valued(e) {
					x.Value = values()[4]
				}
				i.Entries = append(i.Entries, x)
			}
			refuses(t, name, i)
		}
	}
	// Those of the same dot, but of unlike values, are of the same dot.
	refuses(t, "unlike values of one dot", store.Item{Elem: elems()[3], Entries: []store.Entry{{dot(0, 1), values()[0]}, {dot(0, 1), values()[1]}}})
	for _, e := range elems() {
		for replica := range api.MaxReplicas {
			s := put(t, store.New(), e, dot(replica, 1), dot(replica, 2), dot(replica, api.MaxCount-1), dot(replica, api.MaxCount))
			if s.Len() != 4 {
				t.Errorf("of %+v there are %d entries of replica %d", e, s.Len(), replica)
			}
		}
	}
}

// TestPutValuesP7_1: what has values may have each Bool, Int or Text that may be, others nothing alone; wherever it stands.
func TestPutValuesP7_1(t *testing.T) {
	for _, e := range elems() {
		right := values()[5]
		if !valued(e) {
			right = api.Value{}
		}
		for i, v := range append(unfit(), values()...) {
			want := valued(e) && i >= len(unfit()) || !valued(e) && i == 0
			for at := range 3 {
				item := store.Item{Elem: e, Entries: []store.Entry{{dot(0, 1), right}, {dot(0, 2), right}, {dot(8, 1), right}}}
				item.Entries[at].Value = v
				if !want {
					refuses(t, "a value that may not be", item)
					continue
				}
				s := store.New()
				if err := s.Put(item); err != api.OK || !same(s.Entries(e), item.Entries) {
					t.Errorf("Put(%+v) is %d, and there are %+v", item, err, s.Entries(e))
				}
			}
		}
	}
}

// TestPutSharesNothingP7_1: what was put isn't changed, and the store not with it.
func TestPutSharesNothingP7_1(t *testing.T) {
	for _, e := range elems() {
		room := entries(e, dot(0, 1), dot(2, 2), dot(3, 3), dot(4, 4))
		before := slices.Clone(room)
		s := store.New()
		if err := s.Put(store.Item{Elem: e, Entries: room[:2]}); err != api.OK {
			t.Fatalf("Put is %d", err)
		}
		do(t, s, brought(dot(9, 1), e, values()[0]), gone(dot(8, 1), api.Vector{0: 1, 9: 1}, e))
		if !same(room, before) {
			t.Errorf("of %+v what was put is changed to %+v", e, room)
		}
		clear(room)
		if got := s.Entries(e); !same(got, before[1:2]) {
			t.Errorf("of %+v the store changes with what was put: %+v", e, got)
		}
	}
}

// TestOrderP7_1 holds Order against all pairs of elements, such as may not be too: part by part, by another's hand.
func TestOrderP7_1(t *testing.T) {
	for i, a := range alike() {
		for j, b := range alike() {
			if got := store.Order(a, b); got != cmp.Compare(i, j) {
				t.Fatalf("Order of %+v and %+v is %d", a, b, got)
			}
		}
	}
	says := []string{"", "\x00", "Z", "a", "a\x00", "aa", "b", "é", "\xff"}
	for i := range says {
		for j := range says {
			want := cmp.Compare(i, j)
			for _, kind := range []int{math.MinInt, 0, 3, math.MaxInt} {
				for part, pair := range [][2]api.Elem{
					{{Kind: kind, A: says[i], B: says[j], C: says[j], D: says[j]}, {Kind: kind, A: says[j], B: says[i], C: says[i], D: says[i]}},
					{{Kind: kind, A: "k", B: says[i], C: says[j], D: says[j]}, {Kind: kind, A: "k", B: says[j], C: says[i], D: says[i]}},
					{{Kind: kind, A: "k", B: "k", C: says[i], D: says[j]}, {Kind: kind, A: "k", B: "k", C: says[j], D: says[i]}},
					{{Kind: kind, A: "k", B: "k", C: "k", D: says[i]}, {Kind: kind, A: "k", B: "k", C: "k", D: says[j]}},
				} {
					if got := store.Order(pair[0], pair[1]); got != want {
						t.Errorf("Order of %+v and %+v, that differ from part %d on, is %d", pair[0], pair[1], part, got)
					}
				}
			}
		}
	}
	kinds := []int{math.MinInt, -1, 0, 1, 2, 3, 4, 5, 6, math.MaxInt}
	for i, k := range kinds {
		for j, l := range kinds {
			// What comes behind the kind turns the other way.
			a, b := api.Elem{Kind: k, A: says[len(says)-1-i%len(says)]}, api.Elem{Kind: l, A: says[len(says)-1-j%len(says)]}
			if got := store.Order(a, b); i != j && got != cmp.Compare(i, j) || i == j && got != 0 {
				t.Errorf("Order of %+v and %+v is %d", a, b, got)
			}
		}
	}
}
