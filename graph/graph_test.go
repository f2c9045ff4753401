package graph_test

import (
	"math"
	"math/rand"
	"slices"
	"strings"
	"testing"

	"hedgerow/api"
	"hedgerow/graph"
	"hedgerow/store"
)

// odd are elements of which no view has anything: that may not be, or of kinds that aren't asked for.
func odd() []api.Elem {
	return []api.Elem{
		{}, {A: "a"}, {Kind: 6, A: "a"}, {Kind: -1, A: "a", D: "p"}, {Kind: math.MaxInt, A: "a", B: "b", C: "K", D: "p"},
		{Kind: api.ElemNode}, {Kind: api.ElemNode, A: "a", B: "b"}, {Kind: api.ElemNode, A: "a", C: "K"}, {Kind: api.ElemNode, A: "a", D: "p"}, {Kind: api.ElemNode, A: "9"},
		{Kind: api.ElemEdge, A: "a", B: "b"}, {Kind: api.ElemEdge, A: "a", B: "b", C: "K", D: "p"}, {Kind: api.ElemEdge, A: "a", C: "K"}, {Kind: api.ElemEdge, B: "b", C: "K"},
		{Kind: api.ElemProp, A: "a"}, {Kind: api.ElemProp, D: "p"}, {Kind: api.ElemProp, A: "a", B: "b", D: "p"}, {Kind: api.ElemProp, A: "a", C: "K", D: "p"},
		{Kind: api.ElemTrait, A: "a", D: "p"}, {Kind: api.ElemTrait, A: "a", B: "b", C: "K"}, {Kind: api.ElemTrait, A: "a", B: "b", D: "p"},
		{Kind: api.ElemLabel, A: "a", D: "P"}, {Kind: api.ElemLabel, A: "a", D: "p"},
	}
}

// some are elements of all kinds, of few names.
func some() []api.Elem {
	return []api.Elem{
		node("a"), node("b"), label("a", "P"), label("b", "P"), prop("a", "p"), prop("b", "p"),
		edge("a", "K", "b"), edge("b", "K", "a"), edge("a", "K", "a"),
		trait("a", "K", "b", "p"), trait("b", "K", "a", "p"), trait("a", "K", "a", "p"),
	}
}

func TestElemP8_1(t *testing.T) {
	for _, l := range []api.Link{{}, way("a", "K", "b"), way("b", "K", "a"), way("a", "a", "a"), way("", "K", "9"), way("\xff", "", "x y")} {
		if got, want := graph.Elem(l), (api.Elem{Kind: api.ElemEdge, A: l.From, B: l.To, C: l.Type}); got != want {
			t.Errorf("Elem(%+v) is %+v", l, got)
		}
	}
	for _, key := range []string{"", "a", "9", "\xff", "x y", strings.Repeat("n", 99)} {
		if got, want := graph.Node(key), (api.Elem{Kind: api.ElemNode, A: key}); got != want {
			t.Errorf("Node(%q) is %+v", key, got)
		}
	}
}

// TestExampleP8_1: a node a with label P: "node a P".
func TestExampleP8_1(t *testing.T) {
	same(t, "Lines", graph.Of(of(t, node("a"), label("a", "P"))).Lines(), []string{"node a P"})
	same(t, "Lines", graph.Of(of(t, node("a"))).Lines(), []string{"node a"})
}

func TestNothingP8_1(t *testing.T) {
	asked := slices.Concat(some(), odd())
	for name, v := range map[string]*graph.View{
		"a nil view": nil, "the zero View": {}, "of a nil store": graph.Of(nil), "of a new store": graph.Of(store.New()), "of the zero Store": graph.Of(&store.Store{}),
	} {
		t.Run(name, func(t *testing.T) { held(t, v, nil, asked) })
	}
}

// whole is a store of elements whose names part the orders that there are: by bytes, by length, by the store's order.
func whole(t *testing.T) *store.Store {
	s := of(t,
		node("b"), node("aa"), node("a"), node("Z"), node("a_1"),
		label("a", "q"), label("a", "P"), label("a", "PP"), label("b", "a"),
		edge("b", "K", "a"), edge("a", "L", "aa"), edge("a", "K", "b"), edge("a", "K", "a"), edge("a", "KK", "Z"), edge("aa", "K", "a"), edge("a", "L", "a"),
		// All below hangs on what isn't there.
		label("c", "P"), prop("c", "p"), edge("a", "K", "c"), edge("c", "K", "a"), edge("c", "K", "c"), trait("a", "K", "c", "t"), trait("a", "M", "a", "t"), trait("c", "K", "c", "t"),
	)
	give(t, s, prop("a", "p"), text("it's \\ so"), text(""), number(10), number(9), yes(), number(-9))
	give(t, s, prop("a", "h"), number(9), number(9))
	give(t, s, prop("b", "P"), api.Value{Kind: api.Bool})
	give(t, s, trait("a", "K", "b", "w"), text("a b"), number(api.MaxNum))
	give(t, s, trait("a", "K", "b", "W"), number(0))
	give(t, s, trait("b", "K", "a", "w"), yes())
	return s
}

func TestLinesP8_1(t *testing.T) {
	same(t, "Lines", graph.Of(whole(t)).Lines(), []string{
		"node Z",
		"node a P PP q",
		"prop a h 9",
		`prop a p true -9 9 10 '' 'it\'s \\ so'`,
		"node a_1",
		"node aa",
		"node b a",
		"prop b P false",
		"edge a K a",
		"edge a K b",
		"trait a K b W 0",
		"trait a K b w 1099511627776 'a b'",
		"edge a KK Z",
		"edge a L a",
		"edge a L aa",
		"edge aa K a",
		"edge b K a",
		"trait b K a w true",
	})
}

func TestOrdersP8_1(t *testing.T) {
	v := graph.Of(whole(t))
	same(t, "Nodes", v.Nodes(), []string{"Z", "a", "a_1", "aa", "b"})
	same(t, "Labels", v.Labels("a"), []string{"P", "PP", "q"})
	same(t, "Labels of others", v.Labels("aa"), nil)
	same(t, "Labels of what isn't there", v.Labels("c"), nil)
	from := ways(edge("a", "K", "a"), edge("a", "K", "b"), edge("a", "KK", "Z"), edge("a", "L", "a"), edge("a", "L", "aa"))
	same(t, "Links", v.Links(), slices.Concat(from, ways(edge("aa", "K", "a"), edge("b", "K", "a"))))
	same(t, "Out", v.Out("a"), from)
	same(t, "In", v.In("a"), ways(edge("a", "K", "a"), edge("a", "L", "a"), edge("aa", "K", "a"), edge("b", "K", "a")))
	same(t, "Out of what isn't there", v.Out("c"), nil)
	same(t, "In of what isn't there", v.In("c"), nil)
	same(t, "Names", v.Names(node("a")), []string{"h", "p"})
	same(t, "Names of an edge", v.Names(edge("a", "K", "b")), []string{"W", "w"})
	same(t, "Names of an edge the other way", v.Names(edge("b", "K", "a")), []string{"w"})
	same(t, "Values", v.Values(prop("a", "p")), []api.Value{yes(), number(-9), number(9), number(10), text(""), text("it's \\ so")})
	same(t, "Values that are alike", v.Values(prop("a", "h")), []api.Value{number(9)})
	same(t, "Values of a trait", v.Values(trait("a", "K", "b", "w")), []api.Value{number(api.MaxNum), text("a b")})
}

// TestLinkOrderP8_1 holds edges of all ends and types of a few names against their order.
func TestLinkOrderP8_1(t *testing.T) {
	names := []string{"A", "Aa", "B", "a", "a0", "a_", "aa", "b"}
	var want []api.Link
	all := []api.Elem{}
	for _, from := range names {
		all = append(all, node(from))
		for _, kind := range names {
			for _, to := range names {
				want = append(want, way(from, kind, to))
				all = append(all, edge(from, kind, to))
			}
		}
	}
	v := graph.Of(of(t, all...))
	same(t, "Links", v.Links(), want)
	for _, key := range names {
		same(t, "Out", v.Out(key), slices.DeleteFunc(slices.Clone(want), func(l api.Link) bool { return l.From != key }))
		same(t, "In", v.In(key), slices.DeleteFunc(slices.Clone(want), func(l api.Link) bool { return l.To != key }))
	}
}

// TestOddP8_1 asks a view of which much is there for elements that may not be, or have nothing of what is asked for.
func TestOddP8_1(t *testing.T) {
	v := graph.Of(of(t, some()...))
	for _, e := range slices.Concat(odd(), some()) {
		if e.Kind != api.ElemProp && e.Kind != api.ElemTrait || slices.Contains(odd(), e) {
			same(t, "Values", v.Values(e), nil)
		}
		if e.Kind != api.ElemNode && e.Kind != api.ElemEdge || slices.Contains(odd(), e) {
			same(t, "Names", v.Names(e), nil)
		}
	}
	for _, key := range []string{"", "P", "p", "K", "c", "9", "a>K>b", "\xff", strings.Repeat("a", 17)} {
		if v.Has(key) || len(v.Labels(key)) != 0 || len(v.Out(key)) != 0 || len(v.In(key)) != 0 {
			t.Errorf("%q is there", key)
		}
	}
	for _, l := range []api.Link{{}, way("a", "", "b"), way("a", "p", "b"), way("K", "a", "b"), way("b", "K", "b"), way("", "K", "")} {
		if v.HasLink(l) {
			t.Errorf("%+v is there", l)
		}
	}
}

// TestNowP8_1: later events change nothing of a view, whatever they change of its store.
func TestNowP8_1(t *testing.T) {
	s := of(t, some()...)
	before, v := look(s, some()), graph.Of(s)
	asked := append(some(), node("c"), label("a", "Q"), prop("a", "q"), edge("a", "L", "b"), trait("a", "K", "b", "q"))
	for _, e := range asked {
		switch e.Kind {
		case api.ElemProp, api.ElemTrait:
			give(t, s, e, text("new"), number(7))
		default:
			give(t, s, e)
		}
	}
	held(t, v, before, asked)
	held(t, graph.Of(s), look(s, asked), asked)
	for _, e := range asked {
		drop(t, s, e)
	}
	held(t, v, before, asked)
	held(t, graph.Of(s), nil, asked)
}

// spoil changes all of a row, and what may stand behind it.
func spoil[T any](l []T) {
	var none T
	clear(append(l, none, none))
	clear(l)
}

// TestSharesNothingP8_1: a view and its store hold, when answers have been changed.
func TestSharesNothingP8_1(t *testing.T) {
	s := whole(t)
	all := s.All()
	var elems []api.Elem
	for _, i := range all {
		elems = append(elems, i.Elem)
	}
	want, v := look(s, elems), graph.Of(s)
	for range 2 {
		spoil(v.Nodes())
		spoil(v.Links())
		spoil(v.Lines())
		for _, e := range elems {
			for _, key := range []string{e.A, e.B} {
				spoil(v.Labels(key))
				spoil(v.Out(key))
				spoil(v.In(key))
			}
			spoil(v.Values(e))
			spoil(v.Names(e))
		}
		held(t, v, want, elems)
	}
	for i, x := range s.All() {
		if x.Elem != all[i].Elem || !slices.Equal(x.Entries, all[i].Entries) {
			t.Fatalf("the store has %+v, not %+v", x, all[i])
		}
	}
}

// TestManyStoresP8_1 holds views of stores of no pattern against what they ought to show.
func TestManyStoresP8_1(t *testing.T) {
	r := rand.New(rand.NewSource(8))
	names := []string{"A", "K", "a", "a_", "aa", "b"}
	pick := func() string { return names[r.Intn(len(names))] }
	values := []api.Value{yes(), number(-1), number(3), text(""), text("A")}
	for range 150 {
		s := store.New()
		var asked []api.Elem
		for range 10 + r.Intn(90) {
			way := edge(pick(), pick(), pick())
			for _, e := range []api.Elem{node(pick()), label(pick(), pick()), way} {
				give(t, s, e)
				asked = append(asked, e)
			}
			for _, e := range []api.Elem{prop(pick(), pick()), trait(pick(), pick(), pick(), pick()), trait(way.A, way.C, way.B, pick())} {
				give(t, s, e, values[r.Intn(5)], values[r.Intn(5)], values[r.Intn(5)])
				asked = append(asked, e)
			}
		}
		for range r.Intn(len(asked)) {
			drop(t, s, asked[r.Intn(len(asked))])
		}
		// look asks of each element once.
		slices.SortFunc(asked, store.Order)
		asked = slices.Compact(asked)
		r.Shuffle(len(asked), func(i, j int) { asked[i], asked[j] = asked[j], asked[i] })
		held(t, graph.Of(s), look(s, asked), slices.Concat(asked, odd()))
	}
}

// TestNoPanicP5 asks all calls at arguments of all sorts: a panic fails it, and so does what doesn't end.
func TestNoPanicP5(t *testing.T) {
	r := rand.New(rand.NewSource(5))
	nums := []int{math.MinInt, -1, 0, 1, 2, 3, 4, 5, 6, math.MaxInt}
	says := []string{"", "a", "b", "K", "P", "p", "a>K>b", "a b", "\x00", "\xff\xfe", "é", strings.Repeat("n", 17), strings.Repeat("z", 1<<16)}
	say := func() string { return says[r.Intn(len(says))] }
	full := of(t, some()...)
	lines := graph.Of(full).Lines()
	views := []*graph.View{nil, {}, graph.Of(nil), graph.Of(full)}
	for range 20000 {
		v := views[r.Intn(len(views))]
		e := api.Elem{Kind: nums[r.Intn(len(nums))], A: say(), B: say(), C: say(), D: say()}
		l := api.Link{From: say(), To: say(), Type: say()}
		key := say()
		if v.Has(key) != slices.Contains(v.Nodes(), key) || v.HasLink(l) != slices.Contains(v.Links(), l) {
			t.Fatalf("Has(%q) is %v, HasLink(%+v) is %v", key, v.Has(key), l, v.HasLink(l))
		}
		if v.HasLink(l) != slices.Contains(v.Out(l.From), l) || v.HasLink(l) != slices.Contains(v.In(l.To), l) {
			t.Fatalf("HasLink(%+v) is %v", l, v.HasLink(l))
		}
		if !v.Has(key) && len(v.Labels(key))+len(v.Names(graph.Node(key))) > 0 || !v.HasLink(l) && len(v.Names(graph.Elem(l))) > 0 {
			t.Fatalf("%q or %+v has more than it is", key, l)
		}
		if len(v.Values(e)) > 0 && len(v.Names(e)) > 0 {
			t.Fatalf("%+v has values and names", e)
		}
	}
	same(t, "Lines", graph.Of(full).Lines(), lines)
}
