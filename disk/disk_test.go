package disk_test

import (
	"bytes"
	"math"
	"math/rand"
	"testing"

	"hedgerow/api"
	"hedgerow/disk"
)

// model is the chapter's words: what stays, and the tail.
type model struct{ stays, tail []byte }

func (m *model) all() []byte { return append(bytes.Clone(m.stays), m.tail...) }

func (m *model) write(b []byte) api.Errno {
	if len(m.stays)+len(m.tail)+len(b) > api.MaxDisk {
		return api.ErrFull
	}
	m.tail = append(bytes.Clone(m.tail), b...)
	return api.OK
}

func (m *model) sync() { m.stays, m.tail = m.all(), nil }

func (m *model) reset(b []byte) api.Errno {
	if len(b) > api.MaxDisk {
		return api.ErrFull
	}
	m.stays, m.tail = bytes.Clone(b), nil
	return api.OK
}

func (m *model) crash(keep, at int, by byte) {
	var left []byte
	for i, x := range m.tail {
		if i >= keep {
			break
		}
		if i == at {
			x ^= by
		}
		left = append(left, x)
	}
	m.tail = left
}

func (m *model) spoil(at int, by byte) {
	for i := range m.stays {
		if i == at {
			m.stays[i] ^= by
		}
	}
	for i := range m.tail {
		if len(m.stays)+i == at {
			m.tail[i] ^= by
		}
	}
}

// of is a disk that has some bytes synced, and some behind them.
func of(t *testing.T, stays, tail []byte) *disk.Disk {
	t.Helper()
	d := disk.New()
	if d.Reset(stays) != api.OK || d.Write(tail) != api.OK {
		t.Fatalf("no disk of %d and %d bytes", len(stays), len(tail))
	}
	return d
}

// has holds a disk against what it ought to have.
func has(t *testing.T, name string, d *disk.Disk, want []byte, synced int) {
	t.Helper()
	got := d.Bytes()
	if !bytes.Equal(got, want) {
		if len(got) > 40 || len(want) > 40 {
			t.Fatalf("%s: %d bytes, not the %d that ought to be", name, len(got), len(want))
		}
		t.Fatalf("%s: %v, not %v", name, got, want)
	}
	if d.Synced() != synced {
		t.Fatalf("%s: %d are synced, not %d", name, d.Synced(), synced)
	}
}

// TestExampleP10_1: five bytes, two synced, a crash that keeps one: three are left, two of them synced.
func TestExampleP10_1(t *testing.T) {
	d := disk.New()
	d.Write([]byte{1, 2})
	d.Sync()
	d.Write([]byte{3, 4, 5})
	d.Crash(1, -1, 0)
	has(t, "the example", d, []byte{1, 2, 3}, 2)
}

func TestNewP10_1(t *testing.T) {
	a, b := disk.New(), disk.New()
	has(t, "a new disk", a, nil, 0)
	if a == b {
		t.Fatal("two disks are one")
	}
	a.Write([]byte{1})
	a.Sync()
	has(t, "another disk", b, nil, 0)
	has(t, "a third disk", disk.New(), nil, 0)
}

func TestWriteP10_1(t *testing.T) {
	d := disk.New()
	for i, b := range [][]byte{{1}, nil, {2, 3}, {}, {0}, {255, 0}} {
		if got := d.Write(b); got != api.OK {
			t.Fatalf("Write %d tells %d", i, got)
		}
	}
	has(t, "behind all writes", d, []byte{1, 2, 3, 0, 255, 0}, 0)
	d.Sync()
	d.Write([]byte{7})
	has(t, "behind a sync", d, []byte{1, 2, 3, 0, 255, 0, 7}, 6)
}

// TestWriteOfTheMostP10_1: MaxDisk bytes may be, however they came; not one more.
func TestWriteOfTheMostP10_1(t *testing.T) {
	most := make([]byte, api.MaxDisk+1)
	rand.New(rand.NewSource(1)).Read(most)
	full := most[:api.MaxDisk]
	for name, c := range map[string]struct {
		stays, tail, b []byte
		want           api.Errno
	}{
		"all at once":               {nil, nil, full, api.OK},
		"one too many":              {nil, nil, most, api.ErrFull},
		"far too many":              {nil, nil, make([]byte, 3*api.MaxDisk), api.ErrFull},
		"the last one":              {nil, full[:api.MaxDisk-1], full[:1], api.OK},
		"the last one, all synced":  {full[:api.MaxDisk-1], nil, full[:1], api.OK},
		"two behind all but one":    {nil, full[:api.MaxDisk-1], full[:2], api.ErrFull},
		"two, all but one synced":   {full[:api.MaxDisk-1], nil, full[:2], api.ErrFull},
		"one behind a full tail":    {nil, full, full[:1], api.ErrFull},
		"one behind a synced disk":  {full, nil, full[:1], api.ErrFull},
		"one behind both":           {full[:900], full[900:], full[:1], api.ErrFull},
		"nothing behind a full one": {nil, full, nil, api.OK},
		"none behind a full one":    {full, nil, []byte{}, api.OK},
		"MaxDisk behind one":        {full[:1], nil, full, api.ErrFull},
		"all but one behind one":    {nil, full[:1], full[1:], api.OK},
	} {
		d := of(t, c.stays, c.tail)
		want := append(bytes.Clone(c.stays), c.tail...)
		if got := d.Write(c.b); got != c.want {
			t.Errorf("%s: %d, not %d", name, got, c.want)
		}
		if c.want == api.OK {
			want = append(want, c.b...)
		}
		has(t, name, d, want, len(c.stays))
	}
	// A refused write leaves room for a smaller one, and a crash makes some.
	d := of(t, nil, full[:api.MaxDisk-2])
	if d.Write(full[:3]) != api.ErrFull || d.Write(full[:2]) != api.OK || d.Write(full[:1]) != api.ErrFull {
		t.Error("a refused write takes room")
	}
	d.Crash(api.MaxDisk-1, -1, 0)
	if d.Write(full[:2]) != api.ErrFull || d.Write(full[:1]) != api.OK {
		t.Error("a crash makes no room, or too much")
	}
}

func TestSyncP10_1(t *testing.T) {
	d := disk.New()
	d.Sync()
	has(t, "nothing synced", d, nil, 0)
	d.Write([]byte{1, 2, 3})
	has(t, "ahead of a sync", d, []byte{1, 2, 3}, 0)
	d.Sync()
	has(t, "behind a sync", d, []byte{1, 2, 3}, 3)
	d.Sync()
	has(t, "synced twice", d, []byte{1, 2, 3}, 3)
	d.Crash(0, 0, 255)
	has(t, "behind a crash", d, []byte{1, 2, 3}, 3)
	d.Write([]byte{4, 5})
	d.Crash(1, -1, 0)
	d.Sync()
	has(t, "a sync of what a crash left", d, []byte{1, 2, 3, 4}, 4)
}

func TestResetP10_1(t *testing.T) {
	most := make([]byte, api.MaxDisk+1)
	rand.New(rand.NewSource(2)).Read(most)
	for _, before := range []struct{ stays, tail []byte }{
		{}, {[]byte{1, 2}, nil}, {nil, []byte{3, 4, 5}}, {[]byte{1, 2}, []byte{3, 4, 5}}, {most[:1], most[1:api.MaxDisk]},
	} {
		all := append(bytes.Clone(before.stays), before.tail...)
		for _, b := range [][]byte{nil, {}, {0}, {9, 8}, make([]byte, 9), most[:api.MaxDisk]} {
			d := of(t, before.stays, before.tail)
			if got := d.Reset(b); got != api.OK {
				t.Fatalf("Reset of %d bytes tells %d", len(b), got)
			}
			has(t, "reset", d, b, len(b))
			d.Crash(0, 0, 1)
			has(t, "reset, and a crash", d, b, len(b))
		}
		for _, b := range [][]byte{most, make([]byte, 2*api.MaxDisk)} {
			d := of(t, before.stays, before.tail)
			if got := d.Reset(b); got != api.ErrFull {
				t.Fatalf("Reset of %d bytes tells %d", len(b), got)
			}
			has(t, "not reset", d, all, len(before.stays))
		}
	}
}

// numbers are those of keeps and places: all small ones, and the greatest.
func numbers() []int {
	l := []int{math.MinInt, math.MinInt + 1, -1 << 32, math.MaxInt, math.MaxInt - 1, 1 << 32, 1<<32 + 1, api.MaxDisk}
	for n := -3; n < 9; n++ {
		l = append(l, n)
	}
	return l
}

func TestCrashP10_1(t *testing.T) {
	all := []byte{10, 20, 30, 40, 50}
	for synced := range len(all) + 1 {
		for _, keep := range numbers() {
			for _, at := range numbers() {
				for _, by := range []byte{0, 1, 128, 255} {
					d := of(t, all[:synced], all[synced:])
					m := &model{stays: bytes.Clone(all[:synced]), tail: bytes.Clone(all[synced:])}
					d.Crash(keep, at, by)
					m.crash(keep, at, by)
					has(t, "a crash", d, m.all(), synced)
				}
			}
		}
	}
}

// TestCrashByEachRowP10_1 tells some crashes by their bytes, not by a model.
func TestCrashByEachRowP10_1(t *testing.T) {
	for _, c := range []struct {
		name     string
		keep, at int
		by       byte
		want     []byte
	}{
		{"below nothing", -1, 0, 255, []byte{1, 2}},
		{"nothing", 0, 0, 255, []byte{1, 2}},
		{"one, turned", 1, 0, 255, []byte{1, 2, 252}},
		{"one, the next one turned", 1, 1, 255, []byte{1, 2, 3}},
		{"two, the second one turned by a bit", 2, 1, 1, []byte{1, 2, 3, 5}},
		{"two, one turned by none", 2, 1, 0, []byte{1, 2, 3, 4}},
		{"all, the last one turned into 0", 3, 2, 5, []byte{1, 2, 3, 4, 0}},
		{"more than all", 4, 2, 16, []byte{1, 2, 3, 4, 21}},
		{"more than all, one turned that isn't there", 4, 3, 16, []byte{1, 2, 3, 4, 5}},
		{"all, one below the first one turned", 3, -1, 16, []byte{1, 2, 3, 4, 5}},
	} {
		d := of(t, []byte{1, 2}, []byte{3, 4, 5})
		d.Crash(c.keep, c.at, c.by)
		has(t, c.name, d, c.want, 2)
		// What is lost doesn't come back, and what comes behind stands where it was.
		d.Write([]byte{9})
		has(t, c.name+", and a write", d, append(bytes.Clone(c.want), 9), 2)
	}
}

func TestSpoilP10_1(t *testing.T) {
	all := []byte{10, 20, 30, 40, 50}
	for synced := range len(all) + 1 {
		for _, at := range numbers() {
			for by := range 256 {
				d := of(t, all[:synced], all[synced:])
				want := bytes.Clone(all)
				if 0 <= at && at < len(want) {
					want[at] ^= byte(by)
				}
				d.Spoil(at, byte(by))
				has(t, "spoilt", d, want, synced)
				d.Spoil(at, byte(by))
				has(t, "spoilt twice by the same", d, all, synced)
			}
		}
	}
	d := disk.New()
	d.Spoil(0, 1)
	has(t, "an empty disk, spoilt", d, nil, 0)
	// A byte that a crash lost isn't there, though it was once.
	d = of(t, []byte{1}, []byte{2, 3})
	d.Crash(1, -1, 0)
	d.Spoil(2, 255)
	d.Write([]byte{3})
	has(t, "a lost byte, spoilt", d, []byte{1, 2, 3}, 1)
}

func TestTwinP10_1(t *testing.T) {
	for _, c := range []struct{ stays, tail []byte }{
		{}, {[]byte{1, 2}, nil}, {nil, []byte{3, 4}}, {[]byte{1, 2}, []byte{3, 4, 5}}, {make([]byte, api.MaxDisk), nil},
	} {
		all := append(bytes.Clone(c.stays), c.tail...)
		d := of(t, c.stays, c.tail)
		twin := d.Twin()
		if twin == d || twin == nil {
			t.Fatal("a twin is the same disk, or none")
		}
		has(t, "a twin", twin, all, len(c.stays))
		third := twin.Twin()
		d.Spoil(0, 255)
		d.Crash(1, 0, 7)
		d.Write([]byte{77})
		d.Sync()
		has(t, "a twin behind the other one's calls", twin, all, len(c.stays))
		twin.Spoil(0, 1)
		twin.Reset([]byte{8})
		has(t, "a twin's twin", third, all, len(c.stays))
	}
	// Both write behind the same bytes.
	d := disk.New()
	d.Write([]byte{1, 2, 3, 4, 5})
	d.Crash(3, -1, 0)
	twin := d.Twin()
	d.Write([]byte{6})
	twin.Write([]byte{7})
	has(t, "the one", d, []byte{1, 2, 3, 6}, 0)
	has(t, "the other", twin, []byte{1, 2, 3, 7}, 0)
}

// TestMemoryP10_1: a disk shares no memory with what it was handed, or answered, and writes to none of it.
func TestMemoryP10_1(t *testing.T) {
	room := []byte{1, 2, 3, 4, 5, 6, 7, 8}
	written, reset := disk.New(), disk.New()
	written.Write(room[:3])
	reset.Reset(room[:3])
	for name, d := range map[string]*disk.Disk{"written": written, "reset": reset} {
		d.Write([]byte{9})
		d.Spoil(0, 255)
		d.Spoil(0, 255)
		d.Crash(2, 1, 255)
		if !bytes.Equal(room, []byte{1, 2, 3, 4, 5, 6, 7, 8}) {
			t.Fatalf("%s: what was handed in is now %v", name, room)
		}
	}
	written, reset = disk.New(), disk.New()
	written.Write(room[:3])
	reset.Reset(room[:3])
	clear(room)
	for name, d := range map[string]*disk.Disk{"written": written, "reset": reset} {
		has(t, name, d, []byte{1, 2, 3}, d.Synced())
		first, second := d.Bytes(), d.Bytes()
		clear(first)
		first = append(first, 5)
		first[0] = 9
		has(t, name+", an answer changed", d, []byte{1, 2, 3}, d.Synced())
		if !bytes.Equal(second, []byte{1, 2, 3}) {
			t.Errorf("%s: two answers share memory: %v", name, second)
		}
		d.Spoil(1, 255)
		d.Write([]byte{4})
		if !bytes.Equal(second, []byte{1, 2, 3}) {
			t.Errorf("%s: an answer changes with the disk: %v", name, second)
		}
	}
}

func TestNoDiskP10_1(t *testing.T) {
	var none *disk.Disk
	for _, b := range [][]byte{nil, {}, {1}, make([]byte, api.MaxDisk), make([]byte, api.MaxDisk+1)} {
		if got := none.Write(b); got != api.ErrArg {
			t.Errorf("nil.Write of %d bytes tells %d", len(b), got)
		}
		if got := none.Reset(b); got != api.ErrArg {
			t.Errorf("nil.Reset of %d bytes tells %d", len(b), got)
		}
	}
	none.Sync()
	for _, n := range numbers() {
		none.Crash(n, n, 255)
		none.Spoil(n, 255)
	}
	if none.Bytes() != nil || none.Synced() != 0 || none.Twin() != nil {
		t.Errorf("nil has %v, %d, %v", none.Bytes(), none.Synced(), none.Twin())
	}
}

// TestZeroDiskP10_1: a disk that New didn't make is empty, too.
func TestZeroDiskP10_1(t *testing.T) {
	var d disk.Disk
	has(t, "the zero disk", &d, nil, 0)
	has(t, "its twin", d.Twin(), nil, 0)
	d.Crash(1, 0, 1)
	d.Spoil(0, 1)
	d.Sync()
	has(t, "the zero disk, behind calls", &d, nil, 0)
	if got := d.Write([]byte{1, 2}); got != api.OK {
		t.Errorf("Write tells %d", got)
	}
	d.Crash(1, 0, 2)
	has(t, "the zero disk, written", &d, []byte{3}, 0)
}

// TestManyCallsP10_1 holds disks behind calls of no pattern against the chapter's words.
func TestManyCallsP10_1(t *testing.T) {
	r := rand.New(rand.NewSource(3))
	some := func(size int) []byte {
		b := make([]byte, size)
		r.Read(b)
		return b
	}
	for range 2000 {
		d, m := disk.New(), &model{}
		for range 40 {
			switch r.Intn(7) {
			case 0, 1, 2:
				b := some(r.Intn(6))
				if d.Write(b) != m.write(b) {
					t.Fatal("Write tells another error")
				}
			case 3:
				d.Sync()
				m.sync()
			case 4:
				keep, at, by := r.Intn(9)-1, r.Intn(9)-1, byte(r.Intn(256))
				d.Crash(keep, at, by)
				m.crash(keep, at, by)
			case 5:
				at, by := r.Intn(20)-1, byte(r.Intn(256))
				d.Spoil(at, by)
				m.spoil(at, by)
			case 6:
				if r.Intn(4) == 0 {
					b := some(r.Intn(6))
					if d.Reset(b) != m.reset(b) {
						t.Fatal("Reset tells another error")
					}
				} else {
					d = d.Twin()
				}
			}
			has(t, "behind a call", d, m.all(), len(m.stays))
		}
	}
}

// TestNearFullP10_1 does the same with large rows, so that some don't fit.
func TestNearFullP10_1(t *testing.T) {
	r := rand.New(rand.NewSource(4))
	most := make([]byte, api.MaxDisk+9)
	r.Read(most)
	told := map[api.Errno]int{}
	d, m := disk.New(), &model{}
	for range 300 {
		size := api.MaxDisk - len(m.all()) + r.Intn(5) - 2
		b := most[:max(0, min(size, r.Intn(2)*size+r.Intn(9)))]
		err := d.Write(b)
		if err != m.write(b) {
			t.Fatalf("Write of %d bytes tells %d", len(b), err)
		}
		told[err]++
		switch r.Intn(4) {
		case 0:
			keep := r.Intn(api.MaxDisk)
			d.Crash(keep, keep/2, 1)
			m.crash(keep, keep/2, 1)
		case 1:
			b = most[:api.MaxDisk-4+r.Intn(9)]
			err = d.Reset(b)
			if err != m.reset(b) {
				t.Fatalf("Reset of %d bytes tells %d", len(b), err)
			}
			told[err]++
		}
		has(t, "a large disk", d, m.all(), len(m.stays))
	}
	if told[api.OK] < 50 || told[api.ErrFull] < 50 || len(told) != 2 {
		t.Errorf("told were %v", told)
	}
}

// TestNoPanicP5 asks all calls at arguments of all sorts: a panic fails it, and so does what doesn't end.
func TestNoPanicP5(t *testing.T) {
	r := rand.New(rand.NewSource(5))
	number := func() int { return int(r.Uint64()) >> r.Intn(64) }
	d := disk.New()
	for range 100000 {
		switch r.Intn(8) {
		case 0:
			d = []*disk.Disk{nil, disk.New(), {}, d}[r.Intn(4)]
		case 1:
			d.Write(make([]byte, r.Intn(200)))
		case 2:
			d.Sync()
		case 3:
			d.Reset(make([]byte, r.Intn(200)))
		case 4:
			d.Crash(number(), number(), byte(number()))
		case 5:
			d.Spoil(number(), byte(number()))
		case 6:
			d = d.Twin()
		}
		if n := d.Synced(); n < 0 || n > len(d.Bytes()) {
			t.Fatalf("%d of %d bytes are synced", n, len(d.Bytes()))
		}
	}
}
