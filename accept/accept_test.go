package accept_test

import (
	"math"
	"math/rand"
	"slices"
	"strings"
	"testing"

	"hedgerow/accept"
	"hedgerow/api"
)

// dot is one of its parts.
func dot(replica, count int) api.Dot { return api.Dot{Replica: replica, Count: count} }

// add is an event that adds a node; its Past knows, beside what is told, what is ahead of it of its own replica.
func add(d api.Dot, past api.Vector) api.Event {
	past[d.Replica] = d.Count - 1
	return api.Event{Dot: d, Past: past, Op: api.OpAdd, Elem: api.Elem{Kind: api.ElemNode, A: "a"}}
}

// wrong are events that may not be, by what is wrong, made of one that may come to the vector 2, 3.
func wrong() map[string]api.Event {
	long := strings.Repeat("n", api.MaxName+1)
	all := map[string]api.Event{"nothing": {}}
	for name, change := range map[string]func(e *api.Event){
		"a replica below 0":           func(e *api.Event) { e.Dot.Replica = -1 },
		"a replica above all":         func(e *api.Event) { e.Dot.Replica = api.MaxReplicas },
		"the greatest replica":        func(e *api.Event) { e.Dot.Replica = math.MaxInt },
		"the count 0":                 func(e *api.Event) { e.Dot.Count, e.Past[1] = 0, -1 },
		"a count below 0":             func(e *api.Event) { e.Dot.Count, e.Past[1] = -4, -5 },
		"a count above all":           func(e *api.Event) { e.Dot.Count, e.Past[1] = api.MaxCount+1, api.MaxCount },
		"a Past below 0":              func(e *api.Event) { e.Past[0] = -1 },
		"a Past above all":            func(e *api.Event) { e.Past[0] = api.MaxCount + 1 },
		"a Past that knows itself":    func(e *api.Event) { e.Past[1] = 4 },
		"a Past with a gap":           func(e *api.Event) { e.Past[1] = 2 },
		"an Op that is none":          func(e *api.Event) { e.Op = 0 },
		"an Op of others":             func(e *api.Event) { e.Op = api.OpSet },
		"an element of no kind":       func(e *api.Event) { e.Elem.Kind = 0 },
		"an element of another kind":  func(e *api.Event) { e.Elem.Kind = api.ElemEdge },
		"an element of no name":       func(e *api.Event) { e.Elem.A = "" },
		"an element of too long ones": func(e *api.Event) { e.Elem.A = long },
		"a value that it can't have":  func(e *api.Event) { e.Value.Kind = api.Int },
	} {
		e := add(dot(1, 4), api.Vector{2})
		change(&e)
		all[name] = e
	}
	return all
}

// same asks whether two rows are, nil and empty being one.
func same(a, b []api.Event) bool { return slices.Equal(a, b) }

// knows asks whether a vector knows an event whose dot may be.
func knows(v api.Vector, e api.Event) bool { return v[e.Dot.Replica] >= e.Dot.Count }

// told is what One ought to tell of an event that may be.
func told(v api.Vector, e api.Event) api.Errno {
	if knows(v, e) {
		return api.ErrNone
	}
	if v[e.Dot.Replica]+1 != e.Dot.Count {
		return api.ErrGap
	}
	for i := range v {
		if e.Past[i] > v[i] {
			return api.ErrGap
		}
	}
	return api.OK
}

func TestOneP9_1(t *testing.T) {
	v := api.Vector{2, 3, 15: 1}
	for _, c := range []struct {
		name string
		v    api.Vector
		e    api.Event
		want api.Errno
	}{
		{"the first one of all", api.Vector{}, add(dot(0, 1), api.Vector{}), api.OK},
		{"the first one of the last replica", api.Vector{}, add(dot(15, 1), api.Vector{}), api.OK},
		{"the second one alone", api.Vector{}, add(dot(0, 2), api.Vector{}), api.ErrGap},
		{"the next one", v, add(dot(1, 4), api.Vector{}), api.OK},
		{"the next one, with all known", v, add(dot(1, 4), v), api.OK},
		{"the next one of a replica that wrote none", v, add(dot(7, 1), v), api.OK},
		{"the next but one", v, add(dot(1, 5), api.Vector{}), api.ErrGap},
		{"the next one, with more known than all of another replica", v, add(dot(1, 4), api.Vector{3}), api.ErrGap},
		{"the next one, with something known of one that wrote none", v, add(dot(1, 4), api.Vector{8: 1}), api.ErrGap},
		{"the last known one", v, add(dot(1, 3), api.Vector{}), api.ErrNone},
		{"the first known one", v, add(dot(1, 1), api.Vector{}), api.ErrNone},
		{"a known one, with a Past that isn't", v, add(dot(1, 3), api.Vector{9}), api.ErrNone},
		{"the last one that may be", api.Vector{4: api.MaxCount - 1}, add(dot(4, api.MaxCount), api.Vector{}), api.OK},
		{"the last one that may be, known", api.Vector{4: api.MaxCount}, add(dot(4, api.MaxCount), api.Vector{}), api.ErrNone},
		{"one that a vector knows that may not be", api.Vector{math.MaxInt}, add(dot(0, 5), api.Vector{}), api.ErrNone},
		{"the next one to a vector that may not be", api.Vector{0: 1, 3: math.MaxInt}, add(dot(0, 2), api.Vector{3: api.MaxCount}), api.OK},
		{"the first one to less than nothing", api.Vector{0: -1}, add(dot(0, 1), api.Vector{}), api.ErrGap},
		{"the first one beside less than nothing", api.Vector{5: math.MinInt}, add(dot(0, 1), api.Vector{}), api.ErrGap},
	} {
		if got := accept.One(c.v, c.e); got != c.want {
			t.Errorf("%s: %d, not %d", c.name, got, c.want)
		}
	}
}

// TestOneOfWrongP9_1: what may not be is told as such, whether it is known, or next, or has a gap.
func TestOneOfWrongP9_1(t *testing.T) {
	var full api.Vector
	for i := range full {
		full[i] = math.MaxInt
	}
	for name, e := range wrong() {
		for _, v := range []api.Vector{{}, {2, 3}, {2, 4}, {9, 9, 9}, full} {
			if got := accept.One(v, e); got != api.ErrArg {
				t.Errorf("%s, to %v: %d", name, v, got)
			}
		}
	}
}

// TestOneOfSmallP9_1 asks of all small vectors and events.
func TestOneOfSmallP9_1(t *testing.T) {
	seen := map[api.Errno]int{}
	for n := range 1 << 13 {
		v := api.Vector{3: n & 3, 9: n >> 2 & 3, 15: n >> 4 & 3}
		own, other := 3, 9
		if n>>6&1 == 1 {
			own, other = other, own
		}
		past := api.Vector{15: n >> 7 & 3}
		past[other] = n >> 9 & 3
		e := add(dot(own, 1+n>>11), past)
		want := told(v, e)
		seen[want]++
		if got := accept.One(v, e); got != want {
			t.Fatalf("of %v and %+v: %d, not %d", v, e, got, want)
		}
	}
	if len(seen) != 3 {
		t.Errorf("told were %v", seen)
	}
}

// TestExampleP9_1: a second event of a replica, alone: ErrGap.
func TestExampleP9_1(t *testing.T) {
	second := add(dot(0, 2), api.Vector{})
	taken, v, err := accept.All(api.Vector{}, []api.Event{second})
	if accept.One(api.Vector{}, second) != api.ErrGap || err != api.ErrGap || len(taken) != 0 || v != (api.Vector{}) {
		t.Errorf("%+v, %v, %d", taken, v, err)
	}
}

func TestAllP9_1(t *testing.T) {
	a1, a2, a3 := add(dot(0, 1), api.Vector{}), add(dot(0, 2), api.Vector{1: 1}), add(dot(0, 3), api.Vector{1: 1})
	b1, b2 := add(dot(1, 1), api.Vector{}), add(dot(1, 2), api.Vector{2})
	bad := add(dot(0, 1), api.Vector{})
	bad.Op = 0
	for _, c := range []struct {
		name  string
		v     api.Vector
		l     []api.Event
		taken []api.Event
		known api.Vector
		err   api.Errno
	}{
		{"nothing", api.Vector{4, 5}, nil, nil, api.Vector{4, 5}, api.OK},
		{"nothing, to what may not be", api.Vector{-4, math.MaxInt}, nil, nil, api.Vector{-4, math.MaxInt}, api.OK},
		{"one", api.Vector{}, []api.Event{a1}, []api.Event{a1}, api.Vector{1}, api.OK},
		{"a row", api.Vector{}, []api.Event{b1, a1, a2, b2, a3}, []api.Event{b1, a1, a2, b2, a3}, api.Vector{3, 2}, api.OK},
		{"a row of which some are known", api.Vector{2, 1}, []api.Event{b1, a1, a2, b2, a3}, []api.Event{b2, a3}, api.Vector{3, 2}, api.OK},
		{"a row of which all are known", api.Vector{3, 9}, []api.Event{b1, a1, a2, b2, a3}, nil, api.Vector{3, 9}, api.OK},
		{"one twice", api.Vector{}, []api.Event{a1, a1, b1, a1}, []api.Event{a1, b1}, api.Vector{1, 1}, api.OK},
		{"a gap ahead of all", api.Vector{}, []api.Event{a2, a1, b1}, nil, api.Vector{}, api.ErrGap},
		{"a gap behind some", api.Vector{}, []api.Event{a1, a2, b1, a3}, []api.Event{a1}, api.Vector{1}, api.ErrGap},
		{"a gap at the end", api.Vector{}, []api.Event{a1, b1, a3}, []api.Event{a1, b1}, api.Vector{1, 1}, api.ErrGap},
		{"a gap in a Past", api.Vector{}, []api.Event{b1, a1, b2}, []api.Event{b1, a1}, api.Vector{1, 1}, api.ErrGap},
		{"a gap behind known ones", api.Vector{1}, []api.Event{a1, a3}, nil, api.Vector{1}, api.ErrGap},
		{"a wrong one", api.Vector{}, []api.Event{b1, bad, a1}, []api.Event{b1}, api.Vector{0, 1}, api.ErrArg},
		{"a wrong one of a known dot", api.Vector{1}, []api.Event{b1, bad, a2}, []api.Event{b1}, api.Vector{1, 1}, api.ErrArg},
		{"a gap ahead of a wrong one", api.Vector{}, []api.Event{a1, a3, bad}, []api.Event{a1}, api.Vector{1}, api.ErrGap},
		{"a wrong one ahead of a gap", api.Vector{}, []api.Event{a1, {}, a3}, []api.Event{a1}, api.Vector{1}, api.ErrArg},
		{"to numbers that may not be", api.Vector{0: 1, 1: math.MaxInt, 2: 1 << 50}, []api.Event{b1, a2, a3}, []api.Event{a2, a3}, api.Vector{0: 3, 1: math.MaxInt, 2: 1 << 50}, api.OK},
		{"to a number below 0", api.Vector{7: -1}, []api.Event{a1}, nil, api.Vector{7: -1}, api.ErrGap},
	} {
		taken, known, err := accept.All(c.v, c.l)
		if !same(taken, c.taken) || known != c.known || err != c.err {
			t.Errorf("%s: %+v, %v, %d", c.name, taken, known, err)
		}
	}
}

// TestAllOfWrongP9_1 lets each event that may not be stop a row.
func TestAllOfWrongP9_1(t *testing.T) {
	ahead, behind := add(dot(5, 1), api.Vector{}), add(dot(5, 2), api.Vector{})
	for name, e := range wrong() {
		taken, known, err := accept.All(api.Vector{2, 3}, []api.Event{ahead, e, behind})
		if !same(taken, []api.Event{ahead}) || known != (api.Vector{0: 2, 1: 3, 5: 1}) || err != api.ErrArg {
			t.Errorf("%s: %+v, %v, %d", name, taken, known, err)
		}
	}
}

// events are some of few dots, with Pasts of no pattern.
func events(r *rand.Rand, size int) []api.Event {
	l := make([]api.Event, size)
	for i := range l {
		past := api.Vector{3: r.Intn(2), 9: r.Intn(2), 15: r.Intn(2)}
		l[i] = add(dot([]int{3, 9, 15}[r.Intn(3)], 1+r.Intn(3)), past)
	}
	return l
}

// TestAllOfManyP9_1 holds All against One, and so Row against both.
func TestAllOfManyP9_1(t *testing.T) {
	r := rand.New(rand.NewSource(9))
	seen := map[api.Errno]int{}
	rows := 0
	for range 20000 {
		v := api.Vector{3: r.Intn(2), 9: r.Intn(2), 15: r.Intn(2)}
		if r.Intn(2) == 0 {
			v = api.Vector{}
		}
		l := events(r, r.Intn(6))
		var want []api.Event
		known, stop := v, api.OK
		for _, e := range l {
			if stop = told(known, e); stop == api.OK {
				want = append(want, e)
				known[e.Dot.Replica]++
			} else if stop == api.ErrGap {
				break
			}
			stop = api.OK
		}
		taken, got, err := accept.All(v, l)
		if !same(taken, want) || got != known || err != stop {
			t.Fatalf("of %v and %+v: %+v, %v, %d", v, l, taken, got, err)
		}
		seen[err]++
		row := v == api.Vector{} && stop == api.OK && len(want) == len(l)
		if row {
			rows++
		}
		if v == (api.Vector{}) && accept.Row(l) != row {
			t.Fatalf("Row of %+v is %v", l, !row)
		}
	}
	if seen[api.OK] < 1000 || seen[api.ErrGap] < 1000 || rows < 1000 {
		t.Errorf("told were %v, and %d rows", seen, rows)
	}
}

func TestLacksP9_1(t *testing.T) {
	a1, a2, b1, c5 := add(dot(0, 1), api.Vector{}), add(dot(0, 2), api.Vector{9: 4}), add(dot(1, 1), api.Vector{}), add(dot(15, 5), api.Vector{})
	other := a2
	other.Elem.A = "b"
	l := []api.Event{c5, a2, b1, a1, other, a2}
	for _, c := range []struct {
		name string
		v    api.Vector
		want []api.Event
	}{
		{"nothing is known", api.Vector{}, l},
		{"less than nothing is known", api.Vector{-1, math.MinInt, 15: -1}, l},
		{"one is known", api.Vector{1}, []api.Event{c5, a2, b1, other, a2}},
		{"all of a replica is known", api.Vector{2}, []api.Event{c5, b1}},
		{"all but one is known", api.Vector{9, 9, 15: 4}, []api.Event{c5}},
		{"all is known", api.Vector{0: 2, 1: 1, 15: 5}, nil},
		{"more is known than may be", api.Vector{0: math.MaxInt, 1: math.MaxInt, 15: math.MaxInt}, nil},
		{"others are known", api.Vector{2: 9, 14: 9}, l},
	} {
		if got := accept.Lacks(c.v, l); !same(got, c.want) {
			t.Errorf("%s: %+v", c.name, got)
		}
	}
	if got := accept.Lacks(api.Vector{}, nil); len(got) != 0 {
		t.Errorf("of nothing: %+v", got)
	}
}

// TestLacksOfWrongP9_1: it is the dot alone that is known, or not; one that may not be isn't.
func TestLacksOfWrongP9_1(t *testing.T) {
	var full api.Vector
	for i := range full {
		full[i] = math.MaxInt
	}
	for name, e := range wrong() {
		may := 0 <= e.Dot.Replica && e.Dot.Replica < api.MaxReplicas && 1 <= e.Dot.Count && e.Dot.Count <= api.MaxCount
		if got := accept.Lacks(full, []api.Event{e}); (len(got) == 0) != may {
			t.Errorf("%s: %+v", name, got)
		}
		if got := accept.Lacks(api.Vector{2, 3}, []api.Event{e}); !same(got, []api.Event{e}) {
			t.Errorf("%s, unknown: %+v", name, got)
		}
	}
}

func TestRowP9_1(t *testing.T) {
	a1, a2, b1, b2 := add(dot(0, 1), api.Vector{}), add(dot(0, 2), api.Vector{1: 1}), add(dot(1, 1), api.Vector{}), add(dot(1, 2), api.Vector{1})
	bad := a1
	bad.Elem.Kind = 9
	for _, c := range []struct {
		name string
		l    []api.Event
		want bool
	}{
		{"nothing", nil, true},
		{"one", []api.Event{a1}, true},
		{"all", []api.Event{a1, b1, a2, b2}, true},
		{"all, in another order", []api.Event{b1, a1, b2, a2}, true},
		{"a second one alone", []api.Event{a2}, false},
		{"one ahead of what it knows", []api.Event{a1, a2, b1}, false},
		{"one that comes too early of its replica", []api.Event{b1, a2, a1}, false},
		{"one twice", []api.Event{a1, a1}, false},
		{"one twice, at the end", []api.Event{a1, b1, a2, a1}, false},
		{"a wrong one", []api.Event{bad}, false},
		{"a wrong one at the end", []api.Event{a1, b1, bad}, false},
		{"nothing's event", []api.Event{{}}, false},
	} {
		if got := accept.Row(c.l); got != c.want {
			t.Errorf("%s: %v", c.name, got)
		}
	}
}

// spoil changes all of a row, and what may stand behind it.
func spoil(l []api.Event) {
	clear(append(l, api.Event{}, api.Event{}))
	clear(l)
}

// TestSharesNothingP9_1: what is handed in stays as it was, whatever becomes of answers.
func TestSharesNothingP9_1(t *testing.T) {
	l := []api.Event{add(dot(1, 1), api.Vector{}), add(dot(0, 1), api.Vector{}), add(dot(0, 2), api.Vector{}), add(dot(2, 1), api.Vector{})}
	before := slices.Clone(l)
	for name, call := range map[string]func() []api.Event{
		"All":   func() []api.Event { taken, _, _ := accept.All(api.Vector{}, l[:3]); return taken },
		"Sort":  func() []api.Event { return accept.Sort(l[:3]) },
		"Lacks": func() []api.Event { return accept.Lacks(api.Vector{}, l[:3]) },
	} {
		first, second := call(), call()
		want := slices.Clone(second)
		spoil(first)
		if !same(l, before) || !same(second, want) || !same(call(), want) || len(want) != 3 {
			t.Errorf("%s shares memory: %+v, %+v", name, l, second)
		}
	}
	if !accept.Row(l[:3]) || !same(l, before) {
		t.Errorf("Row changes %+v", l)
	}
}

// TestNoPanicP5 asks all calls at arguments of all sorts: a panic fails it, and so does what doesn't end.
func TestNoPanicP5(t *testing.T) {
	r := rand.New(rand.NewSource(5))
	nums := []int{math.MinInt, -1 << 62, -1, 0, 1, 2, 3, 4, 15, 16, api.MaxCount, api.MaxCount + 1, 1 << 62, math.MaxInt}
	num := func() int { return nums[r.Intn(len(nums))] }
	vector := func() api.Vector {
		var v api.Vector
		for i := range v {
			v[i] = num()
		}
		return v
	}
	for range 20000 {
		l := events(r, r.Intn(4))
		for i := range l {
			if r.Intn(2) == 0 {
				l[i] = api.Event{Dot: dot(num(), num()), Past: vector(), Op: num(), Elem: api.Elem{Kind: num(), A: "\xff"}, Value: api.Value{Kind: num(), Num: num()}}
			}
		}
		v := vector()
		taken, known, err := accept.All(v, l)
		lacks, sorted := accept.Lacks(v, l), accept.Sort(l)
		if err == api.OK && len(taken) > len(lacks) || err == api.ErrNone || len(sorted) != len(l) {
			t.Fatalf("of %v and %+v: %+v, %d, %+v, %+v", v, l, taken, err, lacks, sorted)
		}
		if again, same, _ := accept.All(known, taken); len(again) != 0 || same != known {
			t.Fatalf("what was taken isn't known: %+v", again)
		}
		if accept.Row(l) && (len(lacks) > len(l) || err == api.ErrArg) {
			t.Fatalf("%+v are a row", l)
		}
	}
}
