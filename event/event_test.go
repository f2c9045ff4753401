package event_test

import (
	"bytes"
	"encoding/binary"
	"maps"
	"math"
	"math/rand"
	"strings"
	"testing"

	"hedgerow/api"
	"hedgerow/event"
)

// elem is an element, whether it may be, and whether it has values.
type elem struct {
	api.Elem
	right, valued bool
}

// elems are one of each kind and some others that may be, and some that may not.
func elems() []elem {
	name := strings.Repeat("n", api.MaxName)
	long := name + "n"
	return []elem{
		{api.Elem{Kind: api.ElemNode, A: "a"}, true, false},
		{api.Elem{Kind: api.ElemNode, A: name}, true, false},
		{api.Elem{Kind: api.ElemLabel, A: "a", D: "P"}, true, false},
		{api.Elem{Kind: api.ElemEdge, A: "a", B: "b", C: "K"}, true, false},
		{api.Elem{Kind: api.ElemEdge, A: "a", B: "a", C: name}, true, false},
		{api.Elem{Kind: api.ElemProp, A: "a", D: "p"}, true, true},
		{api.Elem{Kind: api.ElemProp, A: name, D: name}, true, true},
		{api.Elem{Kind: api.ElemTrait, A: "a", B: "b", C: "K", D: "t"}, true, true},
		{api.Elem{Kind: api.ElemTrait, A: name, B: name, C: name, D: name}, true, true},
		{api.Elem{}, false, false},
		{api.Elem{A: "a"}, false, false},
		{api.Elem{Kind: api.ElemNode}, false, false},
		{api.Elem{Kind: api.ElemNode, A: long}, false, false},
		{api.Elem{Kind: api.ElemNode, A: "a b"}, false, false},
		{api.Elem{Kind: api.ElemNode, A: "a", D: "P"}, false, false},
		{api.Elem{Kind: api.ElemLabel, A: "a"}, false, false},
		{api.Elem{Kind: api.ElemLabel, A: "a", B: "b", D: "P"}, false, false},
		{api.Elem{Kind: api.ElemEdge, A: "a", B: "b"}, false, false},
		{api.Elem{Kind: api.ElemEdge, A: "a", B: "b", C: "9"}, false, false},
		{api.Elem{Kind: api.ElemEdge, A: "a", B: "b", C: "K", D: "t"}, false, false},
		{api.Elem{Kind: api.ElemProp, A: "a"}, false, true},
		{api.Elem{Kind: api.ElemProp, D: "p"}, false, true},
		{api.Elem{Kind: api.ElemProp, A: "a", B: "b", C: "K", D: "p"}, false, true},
		{api.Elem{Kind: api.ElemTrait, A: "a", B: "b", C: "K"}, false, true},
		{api.Elem{Kind: api.ElemTrait, A: "a", B: "b", C: "K", D: "é"}, false, true},
		{api.Elem{Kind: 6, A: "a", B: "b", C: "K", D: "t"}, false, true},
		{api.Elem{Kind: -1, A: "a"}, false, false},
		{api.Elem{Kind: math.MaxInt, A: "a"}, false, false},
	}
}

// val is a value, and whether one may be set to it.
type val struct {
	api.Value
	settable bool
}

// values are those of all kinds: some that may be, some that may be elsewhere, and some that may not.
func values() []val {
	return []val{
		{api.Value{}, false},
		{api.Value{Kind: api.Bool}, true},
		{api.Value{Kind: api.Bool, Num: 1}, true},
		{api.Value{Kind: api.Int}, true},
		{api.Value{Kind: api.Int, Num: 63}, true},
		{api.Value{Kind: api.Int, Num: -65}, true},
		{api.Value{Kind: api.Int, Num: api.MaxNum}, true},
		{api.Value{Kind: api.Int, Num: -api.MaxNum}, true},
		{api.Value{Kind: api.Text}, true},
		{api.Value{Kind: api.Text, Text: `it's \ ~`}, true},
		{api.Value{Kind: api.Text, Text: strings.Repeat("x", api.MaxText)}, true},
		{api.Value{Num: 1}, false},
		{api.Value{Num: -1}, false},
		{api.Value{Text: "a"}, false},
		{api.Value{Kind: api.Bool, Num: 2}, false},
		{api.Value{Kind: api.Bool, Num: -1}, false},
		{api.Value{Kind: api.Bool, Text: "a"}, false},
		{api.Value{Kind: api.Int, Num: api.MaxNum + 1}, false},
		{api.Value{Kind: api.Int, Num: -api.MaxNum - 1}, false},
		{api.Value{Kind: api.Int, Num: math.MinInt}, false},
		{api.Value{Kind: api.Int, Num: 1, Text: "1"}, false},
		{api.Value{Kind: api.Text, Num: 1}, false},
		{api.Value{Kind: api.Text, Text: strings.Repeat("x", api.MaxText+1)}, false},
		{api.Value{Kind: api.Text, Text: "a\n"}, false},
		{api.Value{Kind: api.Text, Text: "é"}, false},
		{api.Value{Kind: api.Node, Text: "a"}, false},
		{api.Value{Kind: api.Node}, false},
		{api.Value{Kind: api.Edge, Text: "a>K>b"}, false},
		{api.Value{Kind: 6}, false},
		{api.Value{Kind: -1}, false},
		{api.Value{Kind: math.MinInt, Num: math.MaxInt, Text: "\xff"}, false},
	}
}

// changes are each Op with each element and each value, and whether they may be, as the chapter says.
func changes() map[api.Change]bool {
	l := map[api.Change]bool{}
	for _, op := range []int{math.MinInt, -1, 0, api.OpAdd, api.OpRemove, api.OpSet, api.OpClear, 5, 257, math.MaxInt} {
		for _, e := range elems() {
			for _, v := range values() {
				right := false
				switch op {
				case api.OpAdd, api.OpRemove:
					right = !e.valued && v.Value == api.Value{}
				case api.OpSet:
					right = e.valued && v.settable
				case api.OpClear:
					right = e.valued && v.Value == api.Value{}
				}
				l[api.Change{Op: op, Elem: e.Elem, Value: v.Value}] = right && e.right
			}
		}
	}
	return l
}

// told is the error of what may be, or may not.
func told(right bool) api.Errno {
	if right {
		return api.OK
	}
	return api.ErrArg
}

// node, label, edge, prop and trait are changes that may be, one of each kind of element.
var (
	node  = api.Change{Op: api.OpAdd, Elem: api.Elem{Kind: api.ElemNode, A: "a"}}
	label = api.Change{Op: api.OpRemove, Elem: api.Elem{Kind: api.ElemLabel, A: "a", D: "P"}}
	edge  = api.Change{Op: api.OpAdd, Elem: api.Elem{Kind: api.ElemEdge, A: "a", B: "b", C: "K"}}
	prop  = api.Change{Op: api.OpSet, Elem: api.Elem{Kind: api.ElemProp, A: "a", D: "p"}, Value: api.Value{Kind: api.Int, Num: -300}}
	trait = api.Change{Op: api.OpClear, Elem: api.Elem{Kind: api.ElemTrait, A: "a", B: "b", C: "K", D: "t"}}
)

// fifth is the fifth event of replica 2, that knows two of replica 0 and 200 of replica 15.
func fifth(c api.Change) api.Event {
	return api.Event{Dot: api.Dot{Replica: 2, Count: 5}, Past: api.Vector{0: 2, 2: 4, 15: 200}, Op: c.Op, Elem: c.Elem, Value: c.Value}
}

// changed are events that may be, each changed by a call.
func changed(by map[string]func(*api.Event)) map[string]api.Event {
	l := map[string]api.Event{}
	for name, change := range by {
		e := fifth(prop)
		change(&e)
		l[name] = e
	}
	return l
}

// broken are events each of which may not be for one reason, and no other; they have bytes.
func broken() map[string]api.Event {
	return changed(map[string]func(*api.Event){
		"no Op":                                func(e *api.Event) { e.Op = 0 },
		"an Op of 5":                           func(e *api.Event) { e.Op = 5 },
		"an OpAdd of a property":               func(e *api.Event) { e.Op, e.Value = api.OpAdd, api.Value{} },
		"an OpRemove of a property":            func(e *api.Event) { e.Op, e.Value = api.OpRemove, api.Value{} },
		"an OpClear with a value":              func(e *api.Event) { e.Op = api.OpClear },
		"an OpSet of nothing":                  func(e *api.Event) { e.Value = api.Value{} },
		"an OpSet of a node":                   func(e *api.Event) { e.Elem = node.Elem },
		"an OpSet to a node":                   func(e *api.Event) { e.Value = api.Value{Kind: api.Node, Text: "a"} },
		"an OpSet to an edge":                  func(e *api.Event) { e.Value = api.Value{Kind: api.Edge, Text: "a>K>b"} },
		"an Int above MaxNum":                  func(e *api.Event) { e.Value.Num = api.MaxNum + 1 },
		"an Int below -MaxNum":                 func(e *api.Event) { e.Value.Num = -api.MaxNum - 1 },
		"a text of 65 bytes":                   func(e *api.Event) { e.Value = api.Value{Kind: api.Text, Text: strings.Repeat("x", 65)} },
		"a key of 17 bytes":                    func(e *api.Event) { e.Elem.A = strings.Repeat("x", 17) },
		"a key that is very long":              func(e *api.Event) { e.Elem.A = strings.Repeat("x", 1<<17) },
		"a key that is none":                   func(e *api.Event) { e.Elem.A = "9" },
		"no key":                               func(e *api.Event) { e.Elem.A = "" },
		"a name too many":                      func(e *api.Event) { e.Elem.B = "b" },
		"no name":                              func(e *api.Event) { e.Elem.D = "" },
		"an element of kind 6":                 func(e *api.Event) { e.Elem.Kind = 6 },
		"a value of kind 6":                    func(e *api.Event) { e.Value.Kind = 6 },
		"a replica of 16":                      func(e *api.Event) { e.Dot.Replica = api.MaxReplicas },
		"a Count of 0, behind nothing":         func(e *api.Event) { e.Dot.Count, e.Past[2] = 0, 0 },
		"a Count above MaxCount":               func(e *api.Event) { e.Dot.Count, e.Past[2] = api.MaxCount+1, api.MaxCount },
		"a Past that knows one too few":        func(e *api.Event) { e.Past[2] = 3 },
		"a Past that knows one too many":       func(e *api.Event) { e.Past[2] = 5 },
		"a Past that knows nothing of its own": func(e *api.Event) { e.Past[2] = 0 },
		"a Past of another replica":            func(e *api.Event) { e.Dot.Replica = 3 },
		"a Past above MaxCount":                func(e *api.Event) { e.Past[0] = api.MaxCount + 1 },
		"a Past above MaxCount, at the end":    func(e *api.Event) { e.Past[15] = 1<<62 - 1 },
	})
}

// unlaid are events of which a number has no bytes.
func unlaid() map[string]api.Event {
	return changed(map[string]func(*api.Event){
		"a replica of -1":       func(e *api.Event) { e.Dot.Replica = -1 },
		"a Count of 0":          func(e *api.Event) { e.Dot.Count, e.Past[2] = 0, -1 },
		"a Count of -5":         func(e *api.Event) { e.Dot.Count = -5 },
		"a Count of 2^62":       func(e *api.Event) { e.Dot.Count = 1 << 62 },
		"a Past below 0":        func(e *api.Event) { e.Past[9] = -1 },
		"a Past of 2^62":        func(e *api.Event) { e.Past[15] = 1 << 62 },
		"an Op of -1":           func(e *api.Event) { e.Op = -1 },
		"an element of kind -1": func(e *api.Event) { e.Elem.Kind = -1 },
		"a value of kind -1":    func(e *api.Event) { e.Value.Kind = -1 },
		"an Int above 2^60":     func(e *api.Event) { e.Value.Num = 1<<60 + 1 },
		"an Int below -2^60":    func(e *api.Event) { e.Value.Num = -1<<60 - 1 },
		"all numbers the least": func(e *api.Event) {
			e.Dot, e.Op, e.Elem.Kind = api.Dot{Replica: math.MinInt, Count: math.MinInt}, math.MinInt, math.MinInt
			e.Value.Kind, e.Value.Num = math.MinInt, math.MinInt
			for i := range e.Past {
				e.Past[i] = math.MinInt
			}
		},
	})
}

// wrong are broken ones and unlaid ones.
func wrong() map[string]api.Event {
	l := broken()
	maps.Copy(l, unlaid())
	return l
}

func TestChangeP6_1(t *testing.T) {
	for c, right := range changes() {
		if got := event.Change(c); got != told(right) {
			t.Errorf("Change(%+v) is %d", c, got)
		}
	}
	for _, c := range []api.Change{node, label, edge, prop, trait} {
		if got := event.Change(c); got != api.OK {
			t.Errorf("Change(%+v) is %d", c, got)
		}
	}
	if event.Change(api.Change{}) != api.ErrArg || event.Change(api.Change{Op: api.OpSet, Elem: node.Elem, Value: prop.Value}) != api.ErrArg {
		t.Error("a change that may not be is OK")
	}
}

func TestRightP6_1(t *testing.T) {
	for c, right := range changes() {
		if got := event.Right(fifth(c)); got != told(right) {
			t.Errorf("Right of %+v is %d", c, got)
		}
	}
	for name, e := range wrong() {
		if got := event.Right(e); got != api.ErrArg {
			t.Errorf("Right of %s is %d", name, got)
		}
	}
	if event.Right(api.Event{}) != api.ErrArg {
		t.Error("an event of nothing may be")
	}
}

// TestRightOfDotsP6_1 asks for dots and Pasts at all edges, with a change that may be.
func TestRightOfDotsP6_1(t *testing.T) {
	counts := []int{math.MinInt, -1, 0, 1, 2, 3, api.MaxCount - 1, api.MaxCount, api.MaxCount + 1, math.MaxInt}
	for _, replica := range []int{math.MinInt, -1, 0, 1, 14, 15, 16, 17, math.MaxInt} {
		for _, count := range counts {
			for _, own := range append(counts, count-2, count-1, count) {
				e := fifth(node)
				e.Dot = api.Dot{Replica: replica, Count: count}
				e.Past = api.Vector{}
				want := false
				if replica >= 0 && replica < 16 {
					e.Past[replica] = own
					want = count >= 1 && count <= 1<<20 && own == count-1
				}
				if got := event.Right(e); got != told(want) {
					t.Errorf("Right of the dot %v, behind %d own ones, is %d", e.Dot, own, got)
				}
			}
		}
	}
	for i := range api.MaxReplicas {
		for n, want := range map[int]bool{math.MinInt: false, -1: false, 0: true, 1: true, api.MaxCount: true, api.MaxCount + 1: false, math.MaxInt: false} {
			e := fifth(edge)
			e.Past[i] = n
			if got := event.Right(e); i != 2 && got != told(want) {
				t.Errorf("Right with a Past of %d of replica %d is %d", n, i, got)
			}
		}
	}
}

func TestMakeOfP6_1(t *testing.T) {
	d, past := api.Dot{Replica: 2, Count: 5}, api.Vector{0: 2, 2: 4, 15: 200}
	for c := range changes() {
		e := event.Make(d, past, c)
		if e != fifth(c) {
			t.Fatalf("Make of %+v is %+v", c, e)
		}
		if got := event.Of(e); got != c {
			t.Fatalf("Of what is made of %+v is %+v", c, got)
		}
	}
	for name, e := range wrong() {
		if got := event.Make(e.Dot, e.Past, event.Of(e)); got != e {
			t.Errorf("%s: of its parts it is %+v", name, got)
		}
	}
	if event.Make(api.Dot{}, api.Vector{}, api.Change{}) != (api.Event{}) || event.Of(api.Event{}) != (api.Change{}) {
		t.Error("of nothing something is made")
	}
}

// number is a number's bytes, by another's hand; nothing: it has none.
func number(n int) []byte {
	if n < 0 || n > 1<<62-1 {
		return nil
	}
	return binary.AppendUvarint(nil, uint64(n))
}

// signed is a signed number's bytes; nothing: it has none.
func signed(n int) []byte {
	if n < -1<<60 || n > 1<<60 {
		return nil
	}
	return binary.AppendVarint(nil, int64(n))
}

// text is a text's bytes.
func text(s string) []byte { return append(number(len(s)), s...) }

// parts are an event's bytes, as the chapter tells them, number by number and text by text.
func parts(e api.Event) [][]byte {
	l := [][]byte{number(e.Dot.Replica), number(e.Dot.Count)}
	for _, n := range e.Past {
		l = append(l, number(n))
	}
	return append(l, number(e.Op), number(e.Elem.Kind), text(e.Elem.A), text(e.Elem.B), text(e.Elem.C), text(e.Elem.D), number(e.Value.Kind), signed(e.Value.Num), text(e.Value.Text))
}

// laid is an event's bytes in one.
func laid(e api.Event) []byte { return bytes.Join(parts(e), nil) }

func TestPutP6_1(t *testing.T) {
	for _, c := range []struct {
		name string
		e    api.Event
		want []byte
	}{
		{"nothing", api.Event{}, make([]byte, 27)},
		{"a node", fifth(node), []byte{2, 5, 2, 0, 4, 0, 0, 0, 0, 0, 0, 0, 0, 0, 0, 0, 0, 200, 1, 1, 1, 1, 'a', 0, 0, 0, 0, 0, 0}},
		{"a label", fifth(label), []byte{2, 5, 2, 0, 4, 0, 0, 0, 0, 0, 0, 0, 0, 0, 0, 0, 0, 200, 1, 2, 2, 1, 'a', 0, 0, 1, 'P', 0, 0, 0}},
		{"an edge", fifth(edge), []byte{2, 5, 2, 0, 4, 0, 0, 0, 0, 0, 0, 0, 0, 0, 0, 0, 0, 200, 1, 1, 3, 1, 'a', 1, 'b', 1, 'K', 0, 0, 0, 0}},
		{"a property", fifth(prop), []byte{2, 5, 2, 0, 4, 0, 0, 0, 0, 0, 0, 0, 0, 0, 0, 0, 0, 200, 1, 3, 4, 1, 'a', 0, 0, 1, 'p', 2, 215, 4, 0}},
		{"a trait", fifth(trait), []byte{2, 5, 2, 0, 4, 0, 0, 0, 0, 0, 0, 0, 0, 0, 0, 0, 0, 200, 1, 4, 5, 1, 'a', 1, 'b', 1, 'K', 1, 't', 0, 0, 0}},
	} {
		if got := event.Put(nil, c.e); !bytes.Equal(got, c.want) {
			t.Errorf("Put of %s is %v, not %v", c.name, got, c.want)
		}
		if got := event.Put([]byte{9, 200}, c.e); !bytes.Equal(got, append([]byte{9, 200}, c.want...)) {
			t.Errorf("behind two bytes Put of %s is %v", c.name, got)
		}
	}
	every := func(name string, e api.Event) {
		if got := event.Put([]byte("ahead"), e); !bytes.Equal(got, append([]byte("ahead"), laid(e)...)) {
			t.Errorf("Put of %s is %v, not %v", name, got, laid(e))
		}
	}
	for c := range changes() {
		every("a change", fifth(c))
	}
	for name, e := range wrong() {
		every(name, e)
	}
}

// TestPutWithoutBytesP6_1: of an event without any number that has bytes its texts are left.
func TestPutWithoutBytesP6_1(t *testing.T) {
	e := unlaid()["all numbers the least"]
	if got, want := event.Put([]byte{7}, e), []byte{7, 1, 'a', 0, 0, 1, 'p', 0}; !bytes.Equal(got, want) {
		t.Errorf("Put is %v, not %v", got, want)
	}
	e = fifth(prop)
	e.Dot.Replica, e.Past[0], e.Value.Num = -1, 1<<62, 1<<60+1
	if got, want := event.Put(nil, e), []byte{5, 0, 4, 0, 0, 0, 0, 0, 0, 0, 0, 0, 0, 0, 0, 200, 1, 3, 4, 1, 'a', 0, 0, 1, 'p', 2, 0}; !bytes.Equal(got, want) {
		t.Errorf("Put is %v, not %v", got, want)
	}
	e.Value.Num = -1 << 60
	if got, want := event.Put(nil, e), append(append([]byte{5, 0, 4, 0, 0, 0, 0, 0, 0, 0, 0, 0, 0, 0, 0, 200, 1, 3, 4, 1, 'a', 0, 0, 1, 'p', 2}, bytes.Repeat([]byte{255}, 8)...), 31, 0); !bytes.Equal(got, want) {
		t.Errorf("Put is %v, not %v", got, want)
	}
}

func TestBytesP6_1(t *testing.T) {
	for c, right := range changes() {
		b, err := event.Bytes(fifth(c))
		if err != told(right) || right && !bytes.Equal(b, laid(fifth(c))) || !right && len(b) != 0 {
			t.Errorf("Bytes of %+v are %v, error %d", c, b, err)
		}
	}
	for name, e := range wrong() {
		if b, err := event.Bytes(e); err != api.ErrArg || len(b) != 0 {
			t.Errorf("Bytes of %s are %v, error %d", name, b, err)
		}
	}
}

// TestSharesNothingP6_1: answers are new memory, and what is handed in isn't written to, its room behind it neither.
func TestSharesNothingP6_1(t *testing.T) {
	room := bytes.Repeat([]byte{5}, 100)
	e := fifth(prop)
	put := event.Put(room[:3], e)
	if !bytes.Equal(room, bytes.Repeat([]byte{5}, 100)) {
		t.Error("Put writes to what was handed in")
	}
	clear(room)
	if !bytes.Equal(put, append([]byte{5, 5, 5}, laid(e)...)) {
		t.Error("Put shares memory with what was handed in")
	}
	first, _ := event.Bytes(e)
	second, _ := event.Bytes(e)
	clear(first)
	if !bytes.Equal(second, laid(e)) {
		t.Error("two answers share memory")
	}
	read, err := event.Parse(second)
	if !bytes.Equal(second, laid(e)) {
		t.Error("Parse changes bytes")
	}
	clear(second)
	if read != e || err != api.OK {
		t.Errorf("behind a change of its bytes it is %+v", read)
	}
}

// TestNoPanicP5 asks all calls at arguments of all sorts: a panic fails it, and so does what doesn't end.
func TestNoPanicP5(t *testing.T) {
	r := rand.New(rand.NewSource(5))
	nums := []int{math.MinInt, -1 << 62, -1<<60 - 1, -1, 0, 1, 2, 3, 4, 5, 6, 15, 16, api.MaxCount, api.MaxCount + 1, api.MaxNum, 1 << 60, 1<<62 - 1, 1 << 62, math.MaxInt}
	says := []string{"", "a", "K", "a>K>b", "a b", "\x00", "\xff\xfe", "é", strings.Repeat("n", 17), strings.Repeat("x", 65), strings.Repeat("z", 300)}
	num := func() int { return nums[r.Intn(len(nums))] }
	say := func() string { return says[r.Intn(len(says))] }
	for range 20000 {
		c := api.Change{Op: num(), Elem: api.Elem{Kind: num(), A: say(), B: say(), C: say(), D: say()}, Value: api.Value{Kind: num(), Num: num(), Text: say()}}
		var past api.Vector
		for i := range past {
			past[i] = num()
		}
		e := event.Make(api.Dot{Replica: num(), Count: num()}, past, c)
		b, err := event.Bytes(e)
		if err != event.Right(e) || (err == api.OK) != (len(b) > 0) || event.Of(e) != c || err == api.OK && event.Change(c) != api.OK {
			t.Fatalf("Bytes of %+v: %d bytes, error %d", e, len(b), err)
		}
		if !bytes.Equal(event.Put(b, e), append(b, laid(e)...)) {
			t.Fatalf("Put of %+v isn't right", e)
		}
		asked(t, laid(e))
	}
}
