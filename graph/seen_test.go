package graph_test

import (
	"slices"
	"sort"
	"strings"
	"testing"

	"hedgerow/api"
	"hedgerow/graph"
	"hedgerow/store"
	"hedgerow/value"
)

// The elements of each kind, by their names.

func node(key string) api.Elem { return api.Elem{Kind: api.ElemNode, A: key} }

func label(key, name string) api.Elem { return api.Elem{Kind: api.ElemLabel, A: key, D: name} }

func edge(from, kind, to string) api.Elem {
	return api.Elem{Kind: api.ElemEdge, A: from, B: to, C: kind}
}

func prop(key, name string) api.Elem { return api.Elem{Kind: api.ElemProp, A: key, D: name} }

func trait(from, kind, to, name string) api.Elem {
	return api.Elem{Kind: api.ElemTrait, A: from, B: to, C: kind, D: name}
}

// way is an edge.
func way(from, kind, to string) api.Link { return api.Link{From: from, Type: kind, To: to} }

// ways are the edges of those elements, in the same order.
func ways(l ...api.Elem) []api.Link {
	var all []api.Link
	for _, e := range l {
		all = append(all, way(e.A, e.C, e.B))
	}
	return all
}

// Values of each kind that may be set.

func yes() api.Value { return api.Value{Kind: api.Bool, Num: 1} }

func number(n int) api.Value { return api.Value{Kind: api.Int, Num: n} }

func text(s string) api.Value { return api.Value{Kind: api.Text, Text: s} }

// give lays entries of those values to an element, one of each replica; one entry, if the element has no values.
func give(t *testing.T, s *store.Store, e api.Elem, values ...api.Value) {
	t.Helper()
	if len(values) == 0 {
		values = []api.Value{{}}
	}
	i := store.Item{Elem: e}
	for replica, v := range values {
		i.Entries = append(i.Entries, store.Entry{Dot: api.Dot{Replica: replica, Count: 1}, Value: v})
	}
	if err := s.Put(i); err != api.OK {
		t.Fatalf("Put(%+v) is %d", i, err)
	}
}

// drop takes all entries from an element, whoever knows them.
func drop(t *testing.T, s *store.Store, e api.Elem) {
	t.Helper()
	if err := s.Put(store.Item{Elem: e}); err != api.OK {
		t.Fatalf("Put of nothing to %+v is %d", e, err)
	}
}

// of is a store of elements: of each property and trait with one value.
func of(t *testing.T, l ...api.Elem) *store.Store {
	t.Helper()
	s := store.New()
	for i, e := range l {
		if e.Kind == api.ElemProp || e.Kind == api.ElemTrait {
			give(t, s, e, number(i))
		} else {
			give(t, s, e)
		}
	}
	return s
}

// thing is an element that has entries.
type thing struct {
	elem   api.Elem
	values []api.Value
}

// seen is a view by another's hand: what is there of a store, gone through from the beginning each time.
type seen []thing

// look is what is there of some elements of a store, in their order, whatever that is.
func look(s *store.Store, l []api.Elem) seen {
	var all seen
	for _, e := range l {
		if there(s, e) {
			all = append(all, thing{e, s.Values(e)})
		}
	}
	return all
}

// there asks whether an element is, in the chapter's words.
func there(s *store.Store, e api.Elem) bool {
	if !s.Has(e) {
		return false
	}
	switch e.Kind {
	case api.ElemNode:
		return true
	case api.ElemLabel, api.ElemProp:
		return there(s, node(e.A))
	case api.ElemEdge:
		return there(s, node(e.A)) && there(s, node(e.B))
	}
	return there(s, edge(e.A, e.C, e.B))
}

// has asks whether an element is there.
func (s seen) has(e api.Elem) bool {
	return slices.ContainsFunc(s, func(x thing) bool { return x.elem == e })
}

// all are the elements of a kind.
func (s seen) all(kind int) []api.Elem {
	var l []api.Elem
	for _, x := range s {
		if x.elem.Kind == kind {
			l = append(l, x.elem)
		}
	}
	return l
}

// nodes are all keys.
func (s seen) nodes() []string {
	var l []string
	for _, e := range s.all(api.ElemNode) {
		l = append(l, e.A)
	}
	sort.Strings(l)
	return l
}

// labels are a node's.
func (s seen) labels(key string) []string {
	var l []string
	for _, e := range s.all(api.ElemLabel) {
		if e.A == key {
			l = append(l, e.D)
		}
	}
	sort.Strings(l)
	return l
}

// links are the edges that are asked for, in the chapter's order: "\x00" is less than what may be in a name.
func (s seen) links(ask func(api.Link) bool) []api.Link {
	l := slices.DeleteFunc(ways(s.all(api.ElemEdge)...), func(x api.Link) bool { return !ask(x) })
	key := func(x api.Link) string { return strings.Join([]string{x.From, x.Type, x.To}, "\x00") }
	sort.Slice(l, func(i, j int) bool { return key(l[i]) < key(l[j]) })
	return l
}

// values are a property's or trait's.
func (s seen) values(e api.Elem) []api.Value {
	for _, x := range s {
		if x.elem == e && (e.Kind == api.ElemProp || e.Kind == api.ElemTrait) {
			return x.values
		}
	}
	return nil
}

// names are those of a node's properties, or an edge's traits.
func (s seen) names(e api.Elem) []string {
	var l []string
	for _, x := range s.all(api.ElemProp) {
		if e == node(x.A) {
			l = append(l, x.D)
		}
	}
	for _, x := range s.all(api.ElemTrait) {
		if e == edge(x.A, x.C, x.B) {
			l = append(l, x.D)
		}
	}
	sort.Strings(l)
	return l
}

// lines are all that is there.
func (s seen) lines() []string {
	var l []string
	for _, key := range s.nodes() {
		words := "node " + key
		for _, name := range s.labels(key) {
			words += " " + name
		}
		l = append(l, words)
		for _, name := range s.names(node(key)) {
			l = append(l, "prop "+key+" "+name+s.texts(prop(key, name)))
		}
	}
	for _, x := range s.links(func(api.Link) bool { return true }) {
		words := x.From + " " + x.Type + " " + x.To
		l = append(l, "edge "+words)
		for _, name := range s.names(edge(x.From, x.Type, x.To)) {
			l = append(l, "trait "+words+" "+name+s.texts(trait(x.From, x.Type, x.To, name)))
		}
	}
	return l
}

// texts are an element's values', a blank ahead of each one.
func (s seen) texts(e api.Elem) string {
	words := ""
	for _, x := range s.values(e) {
		words += " " + value.String(x)
	}
	return words
}

// same fails a test, if two rows aren't the same, nil and empty being one.
func same[T comparable](t *testing.T, name string, got, want []T) {
	t.Helper()
	if !slices.Equal(got, want) {
		t.Fatalf("%s: %+v, not %+v", name, got, want)
	}
}

// held holds all that a view answers against what it ought to; all names of the elements are asked of, in many places.
func held(t *testing.T, v *graph.View, want seen, asked []api.Elem) {
	t.Helper()
	same(t, "Nodes", v.Nodes(), want.nodes())
	same(t, "Links", v.Links(), want.links(func(api.Link) bool { return true }))
	same(t, "Lines", v.Lines(), want.lines())
	keys := map[string]int{}
	for _, e := range asked {
		same(t, "Values", v.Values(e), want.values(e))
		same(t, "Names", v.Names(e), want.names(e))
		for _, l := range []api.Link{way(e.A, e.C, e.B), way(e.B, e.C, e.A), way(e.A, e.D, e.A), way(e.C, e.B, e.A)} {
			if got := v.HasLink(l); got != want.has(edge(l.From, l.Type, l.To)) {
				t.Fatalf("HasLink(%+v) is %v", l, got)
			}
		}
		for _, key := range []string{e.A, e.B, e.C, e.D} {
			keys[key]++
		}
	}
	for key := range keys {
		heldNode(t, v, want, key)
	}
}

// heldNode holds all that a view answers of a node against what it ought to.
func heldNode(t *testing.T, v *graph.View, want seen, key string) {
	t.Helper()
	if got := v.Has(key); got != want.has(node(key)) {
		t.Fatalf("Has(%q) is %v", key, got)
	}
	same(t, "Labels", v.Labels(key), want.labels(key))
	same(t, "Out", v.Out(key), want.links(func(l api.Link) bool { return l.From == key }))
	same(t, "In", v.In(key), want.links(func(l api.Link) bool { return l.To == key }))
	same(t, "Names of a node", v.Names(node(key)), want.names(node(key)))
}
