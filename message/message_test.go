package message_test

import (
	"maps"
	"math"
	"slices"
	"strings"
	"testing"

	"hedgerow/api"
	"hedgerow/message"
)

// mostEvents is the chapter's.
const mostEvents = 200

// yes, number and text are values of the three kinds that may be set.
func yes() api.Value { return api.Value{Kind: api.Bool, Num: 1} }

func number(n int) api.Value { return api.Value{Kind: api.Int, Num: n} }

func text(s string) api.Value { return api.Value{Kind: api.Text, Text: s} }

// longest is a name that has as many bytes as one may.
func longest() string { return strings.Repeat("n", api.MaxName) }

// elems are two of each kind.
func elems() []api.Elem {
	name := longest()
	return []api.Elem{
		{Kind: api.ElemNode, A: "a"},
		{Kind: api.ElemNode, A: name},
		{Kind: api.ElemLabel, A: "a", D: "P"},
		{Kind: api.ElemLabel, A: name, D: name},
		{Kind: api.ElemEdge, A: "a", B: "b", C: "K"},
		{Kind: api.ElemEdge, A: name, B: name, C: name},
		{Kind: api.ElemProp, A: "a", D: "p"},
		{Kind: api.ElemProp, A: name, D: name},
		{Kind: api.ElemTrait, A: "a", B: "b", C: "K", D: "t"},
		{Kind: api.ElemTrait, A: name, B: name, C: name, D: name},
	}
}

// event is an event that may be: the count-th one of a replica, that knows nothing of others.
func event(replica, count, op int, e api.Elem, v api.Value) api.Event {
	past := api.Vector{}
	past[replica] = count - 1
	return api.Event{Dot: api.Dot{Replica: replica, Count: count}, Past: past, Op: op, Elem: e, Value: v}
}

// digest is one that may be.
func digest() api.Message {
	return api.Message{Kind: api.MsgDigest, From: 3, To: 1, Known: api.Vector{0: 3, 1: 300, 2: 5, 15: api.MaxCount}}
}

// delta is one that may be, with events of all kinds, in no order.
func delta() api.Message {
	l := elems()
	m := digest()
	m.Kind = api.MsgDelta
	m.Events = []api.Event{
		event(1, 300, api.OpRemove, l[3], api.Value{}),
		event(0, 1, api.OpAdd, l[0], api.Value{}),
		event(15, api.MaxCount, api.OpSet, l[7], number(-300)),
		event(0, 3, api.OpAdd, l[4], api.Value{}),
		event(2, 2, api.OpClear, l[8], api.Value{}),
		event(2, 1, api.OpSet, l[9], text("it's")),
		event(2, 5, api.OpSet, l[6], yes()),
	}
	// What an event has seen needn't be known by who tells it.
	m.Events[5].Past = api.Vector{0: api.MaxCount, 9: 128}
	return m
}

// vectorOf is the vector that has a number of each replica.
func vectorOf(n int) api.Vector {
	var v api.Vector
	for i := range v {
		v[i] = n
	}
	return v
}

// crowd is a delta of so many events, each of them as long as one may be.
func crowd(size int) api.Message {
	m := api.Message{Kind: api.MsgDelta, From: 15, To: 14, Known: vectorOf(api.MaxCount)}
	for i := range size {
		e := event(15, api.MaxCount-i, api.OpSet, elems()[9], text(strings.Repeat("~", api.MaxText)))
		e.Past = vectorOf(api.MaxCount)
		e.Past[15] = api.MaxCount - i - 1
		m.Events = append(m.Events, e)
	}
	return m
}

// copied is a message in memory of its own.
func copied(m api.Message) api.Message {
	m.Events = slices.Clone(m.Events)
	return m
}

// same asks whether messages are the same, as the chapter says it.
func same(a, b api.Message) bool {
	if a.Kind != b.Kind || a.From != b.From || a.To != b.To || a.Known != b.Known || len(a.Events) != len(b.Events) {
		return false
	}
	for i := range a.Events {
		if a.Events[i] != b.Events[i] {
			return false
		}
	}
	return true
}

// changed are copies of a message that may be, each changed by a call.
func changed(of func() api.Message, by map[string]func(*api.Message)) map[string]api.Message {
	l := map[string]api.Message{}
	for name, change := range by {
		m := of()
		change(&m)
		l[name] = m
	}
	return l
}

// right are messages that may be.
func right() map[string]api.Message {
	l := map[string]api.Message{
		"a digest that knows nothing": {Kind: api.MsgDigest, To: 1},
		"a delta that knows nothing":  {Kind: api.MsgDelta, From: 1},
		"a digest":                    digest(),
		"a delta":                     delta(),
		"an event more than none":     crowd(1),
		"an event less than the most": crowd(mostEvents - 1),
		"the most":                    crowd(mostEvents),
		"an empty row of events":      {Kind: api.MsgDigest, From: 15, Known: vectorOf(api.MaxCount), Events: []api.Event{}},
	}
	maps.Copy(l, changed(delta, map[string]func(*api.Message){
		"a delta without events": func(m *api.Message) { m.Events = nil },
		"an event twice":         func(m *api.Message) { m.Events = append(m.Events, m.Events[2]) },
		"a dot twice":            func(m *api.Message) { m.Events[1].Elem.A = "b"; m.Events = append(m.Events, delta().Events[1]) },
		"an event that isn't the sender's, nor of whom it is to": func(m *api.Message) { m.Events = m.Events[2:3] },
	}))
	return l
}

// wrongHeads are messages that may not be for what stands ahead of their events; of both kinds.
func wrongHeads() map[string]api.Message {
	by := map[string]func(*api.Message){
		"no kind":               func(m *api.Message) { m.Kind = 0 },
		"kind 3":                func(m *api.Message) { m.Kind = 3 },
		"kind 257":              func(m *api.Message) { m.Kind = 257 },
		"kind 258":              func(m *api.Message) { m.Kind = 258 },
		"the greatest kind":     func(m *api.Message) { m.Kind = 1<<62 - 1 },
		"from replica 16":       func(m *api.Message) { m.From = api.MaxReplicas },
		"from the greatest":     func(m *api.Message) { m.From = 1<<62 - 1 },
		"to replica 16":         func(m *api.Message) { m.To = api.MaxReplicas },
		"to the greatest":       func(m *api.Message) { m.To = 1<<62 - 1 },
		"to itself":             func(m *api.Message) { m.To = m.From },
		"from whom it is to":    func(m *api.Message) { m.From = m.To },
		"from 0 to 0":           func(m *api.Message) { m.From, m.To = 0, 0 },
		"from 15 to 15":         func(m *api.Message) { m.From, m.To = 15, 15 },
		"from 16 to 16":         func(m *api.Message) { m.From, m.To = 16, 16 },
		"too much of replica 0": func(m *api.Message) { m.Known[0] = api.MaxCount + 1 },
		"too much of the last":  func(m *api.Message) { m.Known[15] = api.MaxCount + 1 },
		"too much of one":       func(m *api.Message) { m.Known[7] = 1<<62 - 1 },
		"too much of all":       func(m *api.Message) { m.Known = vectorOf(api.MaxCount + 1) },
	}
	l := map[string]api.Message{}
	for name, m := range changed(digest, by) {
		l["a digest: "+name] = m
	}
	for name, m := range changed(delta, by) {
		l["a delta: "+name] = m
	}
	return l
}

// wrongEvents are messages that may not be for their events.
func wrongEvents() map[string]api.Message {
	l := changed(delta, map[string]func(*api.Message){
		"a digest with events":              func(m *api.Message) { m.Kind = api.MsgDigest },
		"a digest with an event":            func(m *api.Message) { m.Kind, m.Events = api.MsgDigest, m.Events[:1] },
		"a digest with an event of nothing": func(m *api.Message) { m.Kind, m.Events = api.MsgDigest, make([]api.Event, 1) },
		"a first event that isn't known":    func(m *api.Message) { m.Known[1] = 299 },
		"one between that isn't known":      func(m *api.Message) { m.Events[3] = event(0, 4, api.OpAdd, elems()[4], api.Value{}) },
		"a last event that isn't known":     func(m *api.Message) { m.Events[6] = event(3, 1, api.OpAdd, elems()[0], api.Value{}) },
		"events, but nothing is known":      func(m *api.Message) { m.Known = api.Vector{} },
		"an event of a Past of another dot": func(m *api.Message) { m.Events[0].Past[1] = 298 },
		"an event that knows itself":        func(m *api.Message) { m.Events[0].Past[1] = 300 },
		"an event whose Past is too great":  func(m *api.Message) { m.Events[4].Past[6] = api.MaxCount + 1 },
		"an event of Count 0":               func(m *api.Message) { m.Events[1].Dot.Count = 0 },
		"an event of replica 16":            func(m *api.Message) { m.Events[1].Dot.Replica = api.MaxReplicas },
		"an event of no Op":                 func(m *api.Message) { m.Events[1].Op = 0 },
		"a last event of Op 5":              func(m *api.Message) { m.Events[6].Op = 5 },
		"an OpSet of a node":                func(m *api.Message) { m.Events[1].Op = api.OpSet },
		"an OpAdd of a property":            func(m *api.Message) { m.Events[6].Op, m.Events[6].Value = api.OpAdd, api.Value{} },
		"an OpSet to nothing":               func(m *api.Message) { m.Events[2].Value = api.Value{} },
		"an OpSet to a node":                func(m *api.Message) { m.Events[2].Value = api.Value{Kind: api.Node, Text: "a"} },
		"an OpClear with a value":           func(m *api.Message) { m.Events[4].Value = yes() },
		"an OpAdd with a value":             func(m *api.Message) { m.Events[1].Value = yes() },
		"an Int above MaxNum":               func(m *api.Message) { m.Events[2].Value.Num = api.MaxNum + 1 },
		"a text of 65 bytes":                func(m *api.Message) { m.Events[5].Value.Text = strings.Repeat("x", api.MaxText+1) },
		"an event of no element":            func(m *api.Message) { m.Events[2].Elem = api.Elem{} },
		"an event of a key that is none":    func(m *api.Message) { m.Events[2].Elem.A = "a b" },
		"an event of a key of 17 bytes":     func(m *api.Message) { m.Events[2].Elem.A += "n" },
		"an event of a very long name":      func(m *api.Message) { m.Events[2].Elem.D = strings.Repeat("n", 1<<16) },
		"an event of a name too many":       func(m *api.Message) { m.Events[1].Elem.B = "b" },
		"an event of nothing":               func(m *api.Message) { m.Events[3] = api.Event{} },
	})
	l["an event of nothing alone"] = api.Message{Kind: api.MsgDelta, To: 1, Events: make([]api.Event, 1)}
	l["an event too many"] = crowd(mostEvents + 1)
	l["very many events"] = crowd(5 * mostEvents)
	l["a digest with the most"] = crowd(mostEvents)
	m := l["a digest with the most"]
	m.Kind = api.MsgDigest
	l["a digest with the most"] = m
	return l
}

// wrong are messages that may not be; all numbers of them have bytes.
func wrong() map[string]api.Message {
	l := wrongHeads()
	maps.Copy(l, wrongEvents())
	l["nothing"] = api.Message{}
	return l
}

// unlaid are messages that may not be, of which a number has no bytes.
func unlaid() map[string]api.Message {
	return changed(delta, map[string]func(*api.Message){
		"kind -1":                    func(m *api.Message) { m.Kind = -1 },
		"the least kind":             func(m *api.Message) { m.Kind = math.MinInt },
		"a kind beyond all":          func(m *api.Message) { m.Kind = math.MaxInt },
		"from -1":                    func(m *api.Message) { m.From = -1 },
		"from the least":             func(m *api.Message) { m.From = math.MinInt },
		"from beyond all":            func(m *api.Message) { m.From = math.MaxInt },
		"to -1":                      func(m *api.Message) { m.To = -1 },
		"to the least":               func(m *api.Message) { m.To = math.MinInt },
		"to beyond all":              func(m *api.Message) { m.To = math.MaxInt },
		"a vector below 0":           func(m *api.Message) { m.Known[7] = -1 },
		"a vector far below 0":       func(m *api.Message) { m.Known[14] = math.MinInt },
		"a vector beyond all":        func(m *api.Message) { m.Known[15] = math.MaxInt },
		"an event of Op -1":          func(m *api.Message) { m.Events[0].Op = -1 },
		"an event of a Past below 0": func(m *api.Message) { m.Events[0].Past[2] = -1 },
		"an event of replica -1":     func(m *api.Message) { m.Events[0].Dot.Replica = -1 },
		"an event of Count -1":       func(m *api.Message) { m.Events[6].Dot.Count = -1 },
		"an Int beyond all":          func(m *api.Message) { m.Events[2].Value.Num = math.MinInt },
	})
}

func TestRightP14_1(t *testing.T) {
	for name, m := range right() {
		before := copied(m)
		if err := message.Right(m); err != api.OK {
			t.Errorf("Right of %s is %d", name, err)
		}
		if !same(m, before) {
			t.Errorf("Right changes %s", name)
		}
	}
	for _, l := range []map[string]api.Message{wrong(), unlaid()} {
		for name, m := range l {
			if err := message.Right(m); err != api.ErrArg {
				t.Errorf("Right of %s is %d", name, err)
			}
		}
	}
}

// TestRightOfReplicasP14_1 asks for all kinds, from all to all, with events and without.
func TestRightOfReplicasP14_1(t *testing.T) {
	numbers := []int{math.MinInt, -17, -16, -1, 16, 17, 256, 257, 1 << 32, math.MaxInt}
	for i := range api.MaxReplicas {
		numbers = append(numbers, i)
	}
	for _, kind := range []int{math.MinInt, -2, -1, 0, 1, 2, 3, 4, 258, 1<<32 + 1, math.MaxInt} {
		for _, from := range numbers {
			for _, to := range numbers {
				for _, l := range [][]api.Event{nil, delta().Events[:1]} {
					m := api.Message{Kind: kind, From: from, To: to, Known: digest().Known, Events: l}
					want := api.ErrArg
					between := from >= 0 && from < 16 && to >= 0 && to < 16 && from != to
					if between && (kind == 1 && l == nil || kind == 2) {
						want = api.OK
					}
					if err := message.Right(m); err != want {
						t.Errorf("Right of a message of kind %d from %d to %d with %d events is %d", kind, from, to, len(l), err)
					}
				}
			}
		}
	}
}

// TestRightOfKnownP14_1 asks for each number of what is known, at all its edges.
func TestRightOfKnownP14_1(t *testing.T) {
	for i := range api.MaxReplicas {
		for n, want := range map[int]api.Errno{
			math.MinInt: api.ErrArg, -1: api.ErrArg, 0: api.OK, 1: api.OK, api.MaxCount: api.OK, api.MaxCount + 1: api.ErrArg, 1 << 32: api.ErrArg, math.MaxInt: api.ErrArg,
		} {
			m := api.Message{Kind: api.MsgDigest, From: 4, To: 9}
			m.Known[i] = n
			if err := message.Right(m); err != want {
				t.Errorf("Right of a digest that knows %d of replica %d is %d", n, i, err)
			}
			m.Kind = api.MsgDelta
			if err := message.Right(m); err != want {
				t.Errorf("Right of a delta that knows %d of replica %d is %d", n, i, err)
			}
		}
	}
}

// TestRightOfDotsP14_1 asks for an event of each replica, known or not, at each place of a row.
func TestRightOfDotsP14_1(t *testing.T) {
	for replica := range api.MaxReplicas {
		for _, count := range []int{1, 2, 128, api.MaxCount} {
			for known, want := range map[int]api.Errno{0: api.ErrArg, count - 1: api.ErrArg, count: api.OK, api.MaxCount: api.OK} {
				for at := range 3 {
					m := api.Message{Kind: api.MsgDelta, From: 1, Known: vectorOf(api.MaxCount)}
					m.Events = slices.Repeat([]api.Event{event((replica+1)%16, 1, api.OpAdd, elems()[0], api.Value{})}, 3)
					m.Events[at] = event(replica, count, api.OpAdd, elems()[1], api.Value{})
					m.Known[replica] = known
					if err := message.Right(m); err != want {
						t.Errorf("Right with event %d of replica %d, of which %d are known, is %d", count, replica, known, err)
					}
				}
			}
		}
	}
}

// others are messages unlike delta in one thing.
func others() map[string]api.Message {
	return changed(delta, map[string]func(*api.Message){
		"a kind":                  func(m *api.Message) { m.Kind = api.MsgDigest },
		"from":                    func(m *api.Message) { m.From++ },
		"to":                      func(m *api.Message) { m.To-- },
		"from and to, the others": func(m *api.Message) { m.From, m.To = m.To, m.From },
		"the first number":        func(m *api.Message) { m.Known[0]++ },
		"the last number":         func(m *api.Message) { m.Known[15]-- },
		"a number between":        func(m *api.Message) { m.Known[8] = 1 },
		"an event less":           func(m *api.Message) { m.Events = m.Events[:6] },
		"the first event less":    func(m *api.Message) { m.Events = m.Events[1:] },
		"no events":               func(m *api.Message) { m.Events = nil },
		"an event more":           func(m *api.Message) { m.Events = append(m.Events, api.Event{}) },
		"events in another order": func(m *api.Message) { m.Events[3], m.Events[4] = m.Events[4], m.Events[3] },
		"another order of all":    func(m *api.Message) { slices.Reverse(m.Events) },
		"an event's Replica":      func(m *api.Message) { m.Events[1].Dot.Replica = 1 },
		"an event's Count":        func(m *api.Message) { m.Events[1].Dot.Count = 2 },
		"an event's Past":         func(m *api.Message) { m.Events[5].Past[9]++ },
		"an event's Op":           func(m *api.Message) { m.Events[1].Op = api.OpRemove },
		"an element's Kind":       func(m *api.Message) { m.Events[0].Elem.Kind = api.ElemEdge },
		"an element's A":          func(m *api.Message) { m.Events[1].Elem.A = "b" },
		"an element's B":          func(m *api.Message) { m.Events[3].Elem.B = "c" },
		"an element's C":          func(m *api.Message) { m.Events[3].Elem.C = "k" },
		"an element's D":          func(m *api.Message) { m.Events[4].Elem.D = "T" },
		"a value's Kind":          func(m *api.Message) { m.Events[6].Value.Kind = api.Int },
		"a value's Num":           func(m *api.Message) { m.Events[2].Value.Num++ },
		"a value's Text":          func(m *api.Message) { m.Events[5].Value.Text = "its" },
	})
}

func TestSameP14_1(t *testing.T) {
	all := map[string]api.Message{"itself": delta(), "a digest": digest(), "nothing": {}}
	for _, l := range []map[string]api.Message{others(), right(), wrong(), unlaid()} {
		for name, m := range l {
			all[name+" "] = copied(m)
		}
	}
	for one, a := range all {
		if !message.Same(a, copied(a)) {
			t.Errorf("%s isn't the same as its copy", one)
		}
		for other, b := range all {
			if got := message.Same(a, b); got != same(a, b) {
				t.Errorf("Same of %s and %s is %v", one, other, got)
			}
		}
	}
	for name, m := range others() {
		if message.Same(delta(), m) || message.Same(m, delta()) {
			t.Errorf("that with another thing (%s) is the same", name)
		}
	}
	// Nil and empty are one.
	a, b := digest(), digest()
	b.Events = []api.Event{}
	if !message.Same(a, b) || !message.Same(b, a) {
		t.Error("an empty row of events isn't the same as a nil one")
	}
}
