package replica_test

import (
	"bytes"
	"math"
	"slices"
	"strings"
	"testing"

	"hedgerow/api"
	"hedgerow/frame"
	"hedgerow/graph"
	"hedgerow/replica"
)

// longest is a name that has as many bytes as one may.
func longest() string { return strings.Repeat("n", api.MaxName) }

// nodeElem, propElem and others are elements.
func nodeElem(key string) api.Elem { return api.Elem{Kind: api.ElemNode, A: key} }

func propElem(key, name string) api.Elem { return api.Elem{Kind: api.ElemProp, A: key, D: name} }

func edgeElem(from, kind, to string) api.Elem {
	return api.Elem{Kind: api.ElemEdge, A: from, B: to, C: kind}
}

// add, remove, set and others are changes.
func add(key string) api.Change { return api.Change{Op: api.OpAdd, Elem: nodeElem(key)} }

func remove(key string) api.Change { return api.Change{Op: api.OpRemove, Elem: nodeElem(key)} }

func link(from, kind, to string) api.Change {
	return api.Change{Op: api.OpAdd, Elem: edgeElem(from, kind, to)}
}

func label(key, name string) api.Change {
	return api.Change{Op: api.OpAdd, Elem: api.Elem{Kind: api.ElemLabel, A: key, D: name}}
}

func setNum(key, name string, n int) api.Change {
	return api.Change{Op: api.OpSet, Elem: propElem(key, name), Value: api.Value{Kind: api.Int, Num: n}}
}

func setText(key, name, says string) api.Change {
	return api.Change{Op: api.OpSet, Elem: propElem(key, name), Value: api.Value{Kind: api.Text, Text: says}}
}

func clearProp(key, name string) api.Change {
	return api.Change{Op: api.OpClear, Elem: propElem(key, name)}
}

// changes are some that may be, of all kinds.
func changes() []api.Change {
	trait := api.Elem{Kind: api.ElemTrait, A: "a", B: "b", C: "K", D: "t"}
	return []api.Change{
		add("a"), add("b"), add(longest()), remove("a"), link("a", "K", "b"), link("b", "K", "a"),
		{Op: api.OpRemove, Elem: edgeElem("a", "K", "b")},
		label("a", "P"), label("b", "P"), {Op: api.OpRemove, Elem: label("a", "P").Elem},
		setNum("a", "p", 1), setNum("a", "p", -300), setText("a", "p", "it's"), clearProp("a", "p"),
		{Op: api.OpSet, Elem: trait, Value: api.Value{Kind: api.Bool, Num: 1}}, {Op: api.OpClear, Elem: trait},
	}
}

// wrongChanges are some that may not be.
func wrongChanges() map[string]api.Change {
	return map[string]api.Change{
		"nothing":                  {},
		"no Op":                    {Elem: nodeElem("a")},
		"Op 5":                     {Op: 5, Elem: nodeElem("a")},
		"the least Op":             {Op: math.MinInt, Elem: nodeElem("a")},
		"the greatest Op":          {Op: math.MaxInt, Elem: nodeElem("a")},
		"an OpAdd of no element":   {Op: api.OpAdd},
		"an OpAdd of kind 6":       {Op: api.OpAdd, Elem: api.Elem{Kind: 6, A: "a"}},
		"an OpAdd without a key":   add(""),
		"a key that is none":       add("9"),
		"a key of 17 bytes":        add(longest() + "n"),
		"a very long key":          add(strings.Repeat("n", 1<<20)),
		"a key with a blank":       remove("a b"),
		"a node with a name":       {Op: api.OpAdd, Elem: api.Elem{Kind: api.ElemNode, A: "a", D: "p"}},
		"an edge without a type":   link("a", "", "b"),
		"an edge to nothing":       link("a", "K", ""),
		"an OpSet of a node":       {Op: api.OpSet, Elem: nodeElem("a"), Value: api.Value{Kind: api.Int}},
		"an OpClear of a node":     {Op: api.OpClear, Elem: nodeElem("a")},
		"an OpAdd of a property":   {Op: api.OpAdd, Elem: propElem("a", "p")},
		"an OpRemove of one":       {Op: api.OpRemove, Elem: propElem("a", "p")},
		"an OpAdd with a value":    {Op: api.OpAdd, Elem: nodeElem("a"), Value: api.Value{Kind: api.Int, Num: 1}},
		"an OpClear with a value":  {Op: api.OpClear, Elem: propElem("a", "p"), Value: api.Value{Kind: api.Int}},
		"an OpSet to nothing":      {Op: api.OpSet, Elem: propElem("a", "p")},
		"an OpSet to a node":       {Op: api.OpSet, Elem: propElem("a", "p"), Value: api.Value{Kind: api.Node, Text: "a"}},
		"a Bool of 2":              {Op: api.OpSet, Elem: propElem("a", "p"), Value: api.Value{Kind: api.Bool, Num: 2}},
		"an Int above MaxNum":      setNum("a", "p", api.MaxNum+1),
		"an Int below -MaxNum":     setNum("a", "p", -api.MaxNum-1),
		"a Text of 65 bytes":       setText("a", "p", strings.Repeat("x", api.MaxText+1)),
		"a Text with a line's end": setText("a", "p", "a\n"),
		"a property without name":  setNum("a", "", 1),
	}
}

// full is a vector of one number.
func full(n int) api.Vector {
	var v api.Vector
	for i := range v {
		v[i] = n
	}
	return v
}

// others are the first events of a replica, of changes, that know nothing of other ones.
func others(replica int, l ...api.Change) []api.Event { return eventsOf(replica, api.Vector{}, l) }

func TestExampleP15_1(t *testing.T) {
	r := replica.New(3, 2)
	l, err := r.Write([]api.Change{add("a"), setNum("a", "p", 7)})
	want := []api.Event{
		{Dot: api.Dot{Replica: 2, Count: 1}, Op: api.OpAdd, Elem: nodeElem("a")},
		{Dot: api.Dot{Replica: 2, Count: 2}, Past: api.Vector{2: 1}, Op: api.OpSet, Elem: propElem("a", "p"), Value: api.Value{Kind: api.Int, Num: 7}},
	}
	if err != api.OK || !slices.Equal(l, want) {
		t.Errorf("Write tells %+v, error %d", l, err)
	}
	if size, synced := r.Disk(); size == 0 || size != synced {
		t.Errorf("of %d bytes %d are synced", size, synced)
	}
	if got := r.View().Lines(); !slices.Equal(got, []string{"node a", "prop a p 7"}) {
		t.Errorf("seen is %q", got)
	}
	if r.Known() != (api.Vector{2: 2}) || !slices.Equal(r.Buffered(), want) {
		t.Errorf("known is %v, buffered %+v", r.Known(), r.Buffered())
	}
}

// TestRecordsP15_1 writes down how many bytes records have: each one a frame of its kind, and of an event's bytes, or a snapshot's.
func TestRecordsP15_1(t *testing.T) {
	r := replica.New(1, 0)
	has := func(size int) {
		t.Helper()
		if got, synced := r.Disk(); got != size || synced != size {
			t.Errorf("there are %d bytes, %d synced, not %d", got, synced, size)
		}
	}
	has(0)
	r.Compact()
	has(8 + 1 + 18)
	r.Write([]api.Change{add("a")})
	has(27 + 8 + 1 + 2 + 16 + 2 + 5 + 3)
	r.Write([]api.Change{add("a")})
	has(27 + 37 + 37)
	r.Compact()
	has(8 + 1 + 16 + 1 + 7 + 2*5 + 1)
}

func TestNewP15_1(t *testing.T) {
	for _, n := range numbers() {
		for _, self := range append(numbers(), n-1, n, n+1, -n) {
			r := replica.New(n, self)
			right := n >= 1 && n <= 16 && self >= 0 && self < n
			if (r != nil) != right {
				t.Errorf("New(%d, %d) is %v", n, self, r)
			}
			if right {
				held(t, "new", r, modelOf(n, self))
			}
		}
	}
}

// nothing holds a replica that is none, or is stopped, against what the chapter tells of such a one, but for its disk.
func nothing(t *testing.T, r *replica.Replica) {
	t.Helper()
	if r.Running() || r.Known() != (api.Vector{}) || len(r.Buffered()) > 0 {
		t.Errorf("Running is %v, Known %v, Buffered %+v", r.Running(), r.Known(), r.Buffered())
	}
	v := r.View()
	if len(v.Lines()) > 0 || len(v.Nodes()) > 0 || len(v.Links()) > 0 || v.Has("a") || v.HasLink(api.Link{From: "a", To: "b", Type: "K"}) {
		t.Errorf("seen is %q", v.Lines())
	}
	for _, i := range numbers() {
		if known, ok := r.Acked(i); known != (api.Vector{}) || ok {
			t.Errorf("Acked of %d is %v, %v", i, known, ok)
		}
	}
}

// refuses holds all calls that do something, at arguments of all sorts, against one error.
func refuses(t *testing.T, r *replica.Replica, want api.Errno) {
	t.Helper()
	rows := [][]api.Change{nil, {}, {add("a")}, {{}}, changes(), {add("a"), add("9")}}
	for _, l := range rows {
		if events, err := r.Write(l); err != want || len(events) > 0 {
			t.Errorf("Write tells %+v, error %d", events, err)
		}
	}
	if err := r.Sync(); err != want {
		t.Errorf("Sync is %d", err)
	}
	if err := r.Compact(); err != want {
		t.Errorf("Compact is %d", err)
	}
	for _, i := range numbers() {
		if b, err := r.Digest(i); err != want || len(b) > 0 {
			t.Errorf("Digest to %d is %v, error %d", i, b, err)
		}
		for _, by := range []byte{0, 1, 255} {
			if err := r.Spoil(i, by); err != want {
				t.Errorf("Spoil of %d is %d", i, err)
			}
			if err := r.Crash(i, i, by); err != want {
				t.Errorf("Crash that keeps %d is %d", i, err)
			}
		}
	}
	told := others(1, add("a"), add("b"))
	messages := [][]byte{
		nil, {}, {0}, make([]byte, 30),
		digestOf(t, 1, 0, api.Vector{}), digestOf(t, 1, 0, full(9)), digestOf(t, 0, 1, api.Vector{}), digestOf(t, 7, 0, api.Vector{}),
		deltaOf(t, 1, 0, api.Vector{1: 2}, told), deltaOf(t, 1, 0, api.Vector{1: 2}, told[1:]), deltaOf(t, 0, 2, api.Vector{1: 2}, told),
	}
	for _, b := range messages {
		if back, to, err := r.Receive(b); err != want || to != -1 || len(back) > 0 {
			t.Errorf("Receive tells %v to %d, error %d", back, to, err)
		}
	}
}

func TestNilP15_1(t *testing.T) {
	var r *replica.Replica
	refuses(t, r, api.ErrArg)
	nothing(t, r)
	if err := r.Recover(); err != api.ErrArg {
		t.Errorf("Recover is %d", err)
	}
	if size, synced := r.Disk(); size != 0 || synced != 0 {
		t.Errorf("the disk has %d bytes, %d synced", size, synced)
	}
}

// TestStoppedP15_1: what is asked of one that is stopped changes nothing, and the disk is told as it is.
func TestStoppedP15_1(t *testing.T) {
	p := pairOf(t, 3, 0)
	p.write(add("a"), label("a", "P"), setNum("a", "p", 1))
	p.compact()
	p.write(add("b"))
	p.receive(deltaOf(t, 2, 0, api.Vector{2: 2}, others(2, link("a", "K", "b"), add("c"))))
	size, synced := p.r.Disk()
	if p.must(p.crash(60, 0, 0), api.OK); size-synced < 61 {
		t.Fatalf("the tail had %d bytes", size-synced)
	}
	if got, still := p.r.Disk(); got != synced+60 || still != synced {
		t.Errorf("the disk has %d bytes, %d synced, not %d, %d", got, still, synced+60, synced)
	}
	refuses(t, p.r, api.ErrStopped)
	nothing(t, p.r)
	held(t, "stopped", p.r, p.m)
	p.must(p.recover(), api.OK)
	if got := p.r.Known(); got != (api.Vector{0: 4, 2: 1}) {
		t.Errorf("known is %v", got)
	}
	// It spoils no byte while it is stopped, so that one may be spoilt now.
	p.must(p.spoil(0, 0), api.OK)
}

func TestWriteP15_1(t *testing.T) {
	for n := 1; n <= api.MaxReplicas; n++ {
		p := pairOf(t, n, n-1)
		for i, c := range changes() {
			l, err := p.write(c)
			if err != api.OK || len(l) != 1 || l[0].Dot != (api.Dot{Replica: n - 1, Count: i + 1}) {
				t.Fatalf("Write tells %+v, error %d", l, err)
			}
		}
		l, err := p.write(changes()...)
		if err != api.OK || len(l) != len(changes()) {
			t.Fatalf("Write tells %+v, error %d", l, err)
		}
		if size, synced := p.r.Disk(); size != synced {
			t.Errorf("of %d bytes %d are synced", size, synced)
		}
	}
}

// TestWritePastP15_1: an event has seen all that was known ahead of it, whoever's it was.
func TestWritePastP15_1(t *testing.T) {
	p := pairOf(t, 4, 1)
	p.write(add("a"))
	p.receive(deltaOf(t, 3, 1, api.Vector{3: 2, 0: 9}, others(3, add("b"), add("c"))))
	l, _ := p.write(remove("b"), add("d"))
	if l[0].Past != (api.Vector{1: 1, 3: 2}) || l[1].Past != (api.Vector{1: 2, 3: 2}) {
		t.Errorf("the Pasts are %v, %v", l[0].Past, l[1].Past)
	}
	if l[0].Dot != (api.Dot{Replica: 1, Count: 2}) || l[1].Dot != (api.Dot{Replica: 1, Count: 3}) {
		t.Errorf("the dots are %v, %v", l[0].Dot, l[1].Dot)
	}
	p.crash(0, 0, 0)
	p.recover()
	l, _ = p.write(add("e"))
	if l[0].Dot != (api.Dot{Replica: 1, Count: 4}) || l[0].Past != (api.Vector{1: 3, 3: 2}) {
		t.Errorf("behind a crash is %+v", l)
	}
	p.compact()
	p.crash(0, 0, 0)
	p.recover()
	l, _ = p.write(add("f"))
	if l[0].Dot != (api.Dot{Replica: 1, Count: 5}) || l[0].Past != (api.Vector{1: 4, 3: 2}) {
		t.Errorf("behind a snapshot is %+v", l)
	}
}

// TestWriteSyncsP15_1: a write lets all stay, what was received ahead of it too, and so does a write of nothing.
func TestWriteSyncsP15_1(t *testing.T) {
	for _, row := range [][]api.Change{nil, {}, {add("b")}, {add("b"), add("c")}} {
		p := pairOf(t, 2, 0)
		p.write(add("a"))
		p.receive(deltaOf(t, 1, 0, api.Vector{1: 1}, others(1, add("z"))))
		if size, synced := p.r.Disk(); size == synced {
			t.Fatalf("what was received is synced")
		}
		l, err := p.write(row...)
		if err != api.OK || len(l) != len(row) {
			t.Errorf("Write tells %+v, error %d", l, err)
		}
		if size, synced := p.r.Disk(); size != synced {
			t.Errorf("behind a write of %d changes %d of %d bytes are synced", len(row), synced, size)
		}
		p.crash(0, 0, 0)
		p.must(p.recover(), api.OK)
		if got, want := p.r.Known(), (api.Vector{0: 1 + len(row), 1: 1}); got != want {
			t.Errorf("known is %v, not %v", got, want)
		}
	}
}

// TestWriteWrongP15_1: a change that may not be, wherever it stands, lets nothing be written, nor synced.
func TestWriteWrongP15_1(t *testing.T) {
	p := pairOf(t, 2, 0)
	p.write(add("a"))
	p.receive(deltaOf(t, 1, 0, api.Vector{1: 1}, others(1, add("z"))))
	for name, c := range wrongChanges() {
		for at := range 4 {
			l := slices.Insert([]api.Change{add("b"), setNum("b", "p", 3), remove("a")}, at, c)
			if events, err := p.write(l...); err != api.ErrArg || len(events) > 0 {
				t.Errorf("Write with %s tells %+v, error %d", name, events, err)
			}
		}
		if _, err := p.write(c); err != api.ErrArg {
			t.Errorf("Write of %s is %d", name, err)
		}
	}
	if size, synced := p.r.Disk(); size == synced {
		t.Error("a write that is refused syncs")
	}
}

// TestSyncP15_1: what was received stays once it is synced.
func TestSyncP15_1(t *testing.T) {
	for _, syncs := range []bool{false, true} {
		p := pairOf(t, 2, 0)
		p.must(p.sync(), api.OK)
		p.write(add("a"))
		p.receive(deltaOf(t, 1, 0, api.Vector{1: 2}, others(1, add("y"), add("z"))))
		want := api.Vector{0: 1}
		if syncs {
			p.must(p.sync(), api.OK)
			want[1] = 2
		}
		if size, synced := p.r.Disk(); (size == synced) != syncs {
			t.Errorf("of %d bytes %d are synced", size, synced)
		}
		p.crash(0, 0, 0)
		p.must(p.recover(), api.OK)
		if p.r.Known() != want {
			t.Errorf("known is %v, not %v", p.r.Known(), want)
		}
	}
}

// TestViewP15_1: a view is of what was known when it was asked for.
func TestViewP15_1(t *testing.T) {
	p := pairOf(t, 2, 1)
	p.write(changes()...)
	then, lines := p.r.View(), linesOf(p.m.lives)
	p.write(add("q"), remove("b"), setNum("a", "p", 5))
	p.compact()
	p.crash(0, 0, 0)
	if got := then.Lines(); !slices.Equal(got, lines) {
		t.Errorf("later events change a view: %q", got)
	}
	if got := graph.Of(storeOf(p.m.base)).Lines(); slices.Equal(got, lines) {
		t.Fatalf("the later events change nothing that is seen")
	}
}

// TestSharesNothingP15_1: what is done to an answer, or to what was handed in, changes no replica.
func TestSharesNothingP15_1(t *testing.T) {
	p := pairOf(t, 2, 0)
	row := []api.Change{add("a"), setText("a", "p", "x"), add("b")}
	want := eventsOf(0, api.Vector{}, row)
	l, _ := p.r.Write(row)
	p.m.write(row)
	clear(l)
	_ = append(l[:1], api.Event{Op: 9})
	clear(row)
	held(t, "behind a write", p.r, p.m)
	buffered := p.r.Buffered()
	clear(buffered)
	_ = append(buffered[:0], api.Event{Op: 9})
	held(t, "behind Buffered", p.r, p.m)
	if got := p.r.Buffered(); !slices.Equal(got, want) {
		t.Errorf("buffered is %+v", got)
	}
	delta := deltaOf(t, 1, 0, api.Vector{1: 2}, others(1, add("y"), setText("y", "p", "z")))
	given := bytes.Clone(delta)
	p.r.Receive(given)
	clear(given)
	p.m.receive(t, delta)
	held(t, "behind a delta", p.r, p.m)
	digest := digestOf(t, 1, 0, api.Vector{1: 2})
	one, _, _ := p.r.Receive(digest)
	other, _, _ := p.r.Receive(digest)
	clear(one)
	if back, _, _ := p.m.receive(t, digest); !bytes.Equal(other, back) {
		t.Error("two answers share memory")
	}
	told, _ := p.r.Digest(1)
	again, _ := p.r.Digest(1)
	clear(told)
	if fresh, _ := p.m.digest(t, 1); !bytes.Equal(again, fresh) {
		t.Error("two digests share memory")
	}
	held(t, "behind all", p.r, p.m)
}

// sized is a change whose record, of replica 0 alone, has so many bytes more than that of a text of no bytes.
func sized(more int) api.Change { return setText("a", "p", strings.Repeat("x", more)) }

// filled is a replica of two that writes until its disk has so many bytes left (500 at most), and whose last event was received.
func filled(t *testing.T, left int) *pair {
	t.Helper()
	p := pairOf(t, 2, 0)
	both := func(l ...api.Change) {
		p.r.Write(l)
		p.m.write(l)
	}
	received := others(1, sized(0))
	// room is how many bytes are left for what is written.
	room := func() int { return api.MaxDisk - len(p.m.disk.Bytes()) - len(recordOf(received)) - left }
	long := setText(longest(), longest(), strings.Repeat("x", api.MaxText))
	for room() > 20000 {
		both(slices.Repeat([]api.Change{long}, 100)...)
	}
	for room() > 1000 {
		both(long)
	}
	next := func() int { return len(recordOf(eventsOf(0, vectorOf(p.m.lives), []api.Change{sized(0)}))) }
	for room()-next() > api.MaxText {
		both(sized(0))
	}
	both(sized(room() - next()))
	_, _, err := p.receive(deltaOf(t, 1, 0, api.Vector{1: 1}, received))
	p.must(err, api.OK)
	if size, synced := p.r.Disk(); size != api.MaxDisk-left || synced == size {
		t.Fatalf("the disk has %d bytes, %d synced", size, synced)
	}
	return p
}

// TestWriteFullP15_1: what doesn't fit lets nothing be written, nor synced; what just fits is written.
func TestWriteFullP15_1(t *testing.T) {
	const left = 115
	p := filled(t, left)
	known := vectorOf(p.m.lives)
	two := eventsOf(0, known, []api.Change{sized(0), sized(0)})
	size := len(recordOf(two))
	if size > left || size < left-api.MaxText {
		t.Fatalf("two records have %d bytes", size)
	}
	fits := []api.Change{sized(left - size), sized(0)}
	over := []api.Change{sized(left + 1 - size), sized(0)}
	_, err := p.write(over...)
	p.must(err, api.ErrFull)
	_, err = p.write(slices.Repeat([]api.Change{sized(0)}, 3)...)
	p.must(err, api.ErrFull)
	// A change that may not be is named first.
	_, err = p.write(append(over, api.Change{})...)
	p.must(err, api.ErrArg)
	_, err = p.r.Write(slices.Repeat([]api.Change{add("a")}, 50000))
	p.held("Write of many", err, api.ErrFull)
	if size, synced := p.r.Disk(); size == synced {
		t.Error("a write that doesn't fit syncs")
	}
	l, err := p.write(fits...)
	if p.must(err, api.OK); len(l) != 2 || l[0].Dot != two[0].Dot {
		t.Errorf("Write tells %+v", l)
	}
	if size, synced := p.r.Disk(); size != api.MaxDisk || synced != api.MaxDisk {
		t.Errorf("the disk has %d bytes, %d synced", size, synced)
	}
	_, err = p.write(add("a"))
	p.must(err, api.ErrFull)
	_, err = p.write()
	p.must(err, api.OK)
	p.crash(0, 0, 0)
	p.must(p.recover(), api.OK)
}

// TestWriteCountP15_1: its numbers end with MaxCount.
func TestWriteCountP15_1(t *testing.T) {
	t.Parallel()
	r := replica.New(1, 0)
	row := slices.Repeat([]api.Change{remove("a")}, 1<<14)
	for range api.MaxCount/len(row) - 1 {
		if _, err := r.Write(row); err != api.OK {
			t.Fatalf("Write is %d", err)
		}
		r.Compact()
	}
	r.Write(row[3:])
	if r.Known() != (api.Vector{api.MaxCount - 3}) {
		t.Fatalf("known is %v", r.Known())
	}
	size, _ := r.Disk()
	if l, err := r.Write(row[:4]); err != api.ErrFull || len(l) > 0 {
		t.Errorf("Write of one too many tells %d events, error %d", len(l), err)
	}
	if l, err := r.Write(row); err != api.ErrFull || len(l) > 0 {
		t.Errorf("Write of many tells %d events, error %d", len(l), err)
	}
	if _, err := r.Write([]api.Change{add("a"), add("a"), add("a"), {}}); err != api.ErrArg {
		t.Errorf("Write of one too many, that may not be, is %d", err)
	}
	if got, _ := r.Disk(); got != size || r.Known() != (api.Vector{api.MaxCount - 3}) {
		t.Errorf("the disk has %d bytes, not %d, known is %v", got, size, r.Known())
	}
	l, err := r.Write([]api.Change{add("a"), add("b"), add("c")})
	if err != api.OK || len(l) != 3 || l[2].Dot != (api.Dot{Count: api.MaxCount}) || l[2].Past != (api.Vector{api.MaxCount - 1}) {
		t.Errorf("Write of the last ones tells %+v, error %d", l, err)
	}
	if l, err := r.Write([]api.Change{add("d")}); err != api.ErrFull || len(l) > 0 {
		t.Errorf("Write behind the last one tells %+v, error %d", l, err)
	}
	if l, err := r.Write(nil); err != api.OK || len(l) > 0 {
		t.Errorf("Write of nothing tells %+v, error %d", l, err)
	}
	r.Compact()
	r.Crash(0, 0, 0)
	if err := r.Recover(); err != api.OK || r.Known() != (api.Vector{api.MaxCount}) {
		t.Errorf("Recover is %d, known %v", err, r.Known())
	}
	if got := r.View().Nodes(); !slices.Equal(got, []string{"a", "b", "c"}) {
		t.Errorf("there are %q", got)
	}
}

// framed is a payload's frame.
func framed(payload ...byte) []byte { return frame.Put(nil, payload) }
