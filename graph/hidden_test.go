package graph_test

import (
	"slices"
	"testing"

	"hedgerow/api"
	"hedgerow/graph"
	"hedgerow/store"
)

// pen writes events to a store, as one replica that knows all that it wrote.
type pen struct {
	store *store.Store
	count int
}

// write does one more event.
func (p *pen) write(t *testing.T, op int, e api.Elem, v api.Value) {
	t.Helper()
	ev := api.Event{Dot: api.Dot{Replica: 3, Count: p.count + 1}, Op: op, Elem: e, Value: v}
	ev.Past[3] = p.count
	p.count++
	if err := p.store.Do(ev); err != api.OK {
		t.Fatalf("Do(%+v) is %d", ev, err)
	}
}

// add and remove write of what has no values.

func (p *pen) add(t *testing.T, e api.Elem) {
	t.Helper()
	p.write(t, api.OpAdd, e, api.Value{})
}

func (p *pen) remove(t *testing.T, e api.Elem) {
	t.Helper()
	p.write(t, api.OpRemove, e, api.Value{})
}

// TestEdgeHiddenP8_2 lets an edge's ends go and come again.
func TestEdgeHiddenP8_2(t *testing.T) {
	s := of(t, node("a"), node("b"), edge("a", "K", "b"))
	give(t, s, trait("a", "K", "b", "w"), number(2))
	p := &pen{store: s}
	all := []string{"node a", "node b", "edge a K b", "trait a K b w 2"}
	gone := func(name string, lines ...string) {
		t.Helper()
		v := graph.Of(s)
		same(t, name, v.Lines(), lines)
		same(t, name+", Links", v.Links(), nil)
		for _, key := range []string{"a", "b"} {
			same(t, name+", Out", v.Out(key), nil)
			same(t, name+", In", v.In(key), nil)
		}
		same(t, name+", Names", v.Names(edge("a", "K", "b")), nil)
		same(t, name+", Values", v.Values(trait("a", "K", "b", "w")), nil)
		if v.HasLink(way("a", "K", "b")) {
			t.Errorf("%s: HasLink", name)
		}
	}
	back := func(name string) {
		t.Helper()
		v := graph.Of(s)
		same(t, name, v.Lines(), all)
		same(t, name+", Out", v.Out("a"), ways(edge("a", "K", "b")))
		same(t, name+", In", v.In("b"), ways(edge("a", "K", "b")))
		same(t, name+", Names", v.Names(edge("a", "K", "b")), []string{"w"})
		same(t, name+", Values", v.Values(trait("a", "K", "b", "w")), []api.Value{number(2)})
		if !v.HasLink(way("a", "K", "b")) {
			t.Errorf("%s: no HasLink", name)
		}
	}
	back("at first")
	drop(t, s, node("b"))
	gone("without b", "node a")
	drop(t, s, node("a"))
	gone("without both")
	p.add(t, node("b"))
	gone("without a", "node b")
	p.add(t, node("a"))
	back("with both again")
	p.remove(t, node("a"))
	gone("a removed", "node b")
	p.add(t, node("a"))
	back("a again")
	p.remove(t, node("b"))
	gone("b removed", "node a")
	p.add(t, node("b"))
	back("b again")
	drop(t, s, edge("a", "K", "b"))
	gone("the edge removed", "node a", "node b")
	p.add(t, edge("a", "K", "b"))
	back("the edge again")
}

// TestLoopHiddenP8_2: an edge from a node to itself hangs on that one alone.
func TestLoopHiddenP8_2(t *testing.T) {
	p := &pen{store: store.New()}
	p.add(t, edge("a", "K", "a"))
	same(t, "without its end", graph.Of(p.store).Lines(), nil)
	p.add(t, node("a"))
	v := graph.Of(p.store)
	same(t, "with its end", v.Lines(), []string{"node a", "edge a K a"})
	same(t, "Out", v.Out("a"), ways(edge("a", "K", "a")))
	same(t, "In", v.In("a"), ways(edge("a", "K", "a")))
	p.remove(t, node("a"))
	same(t, "without its end again", graph.Of(p.store).Lines(), nil)
}

// TestPartsHiddenP8_1: labels and properties are a node's that is there, and traits an edge's.
func TestPartsHiddenP8_1(t *testing.T) {
	p := &pen{store: store.New()}
	p.add(t, label("a", "P"))
	p.write(t, api.OpSet, prop("a", "p"), number(1))
	p.write(t, api.OpSet, trait("a", "K", "a", "w"), number(2))
	asked := []api.Elem{node("a"), label("a", "P"), prop("a", "p"), edge("a", "K", "a"), trait("a", "K", "a", "w")}
	held(t, graph.Of(p.store), nil, asked)
	p.add(t, node("a"))
	same(t, "without the edge", graph.Of(p.store).Lines(), []string{"node a P", "prop a p 1"})
	held(t, graph.Of(p.store), look(p.store, asked), asked)
	p.add(t, edge("a", "K", "a"))
	same(t, "with all", graph.Of(p.store).Lines(), []string{"node a P", "prop a p 1", "edge a K a", "trait a K a w 2"})
	p.remove(t, edge("a", "K", "a"))
	same(t, "without the edge again", graph.Of(p.store).Lines(), []string{"node a P", "prop a p 1"})
	p.write(t, api.OpClear, prop("a", "p"), api.Value{})
	p.remove(t, label("a", "P"))
	same(t, "the node alone", graph.Of(p.store).Lines(), []string{"node a"})
	same(t, "Names of the node alone", graph.Of(p.store).Names(node("a")), nil)
}

// TestAllSubsetsP8_2 holds views of all stores of some elements against what they ought to show.
func TestAllSubsetsP8_2(t *testing.T) {
	all := some()
	for n := range 1 << len(all) {
		var l []api.Elem
		for i, e := range all {
			if n>>i&1 == 1 {
				l = append(l, e)
			}
		}
		s := of(t, l...)
		held(t, graph.Of(s), look(s, all), all)
		for _, x := range graph.Of(s).Links() {
			if !slices.Contains(l, node(x.From)) || !slices.Contains(l, node(x.To)) {
				t.Fatalf("of %+v there is %+v", l, x)
			}
		}
	}
}
