package journal_test

import (
	"bytes"
	"math"
	"math/rand"
	"strconv"
	"testing"

	"hedgerow/api"
	"hedgerow/disk"
	"hedgerow/frame"
	"hedgerow/journal"
)

// framed is a record's frame.
func framed(r journal.Record) []byte { return frame.Put(nil, append([]byte{r.Kind}, r.Data...)) }

// laid are records' frames, one behind the other, and where each of them ends.
func laid(l []journal.Record) ([]byte, []int) {
	var b []byte
	var ends []int
	for _, r := range l {
		b = append(b, framed(r)...)
		ends = append(ends, len(b))
	}
	return b, ends
}

// of is a disk that has those bytes, so many of them synced.
func of(t *testing.T, b []byte, synced int) *disk.Disk {
	t.Helper()
	d := disk.New()
	if d.Reset(b[:synced]) != api.OK || d.Write(b[synced:]) != api.OK {
		t.Fatalf("no disk of %d bytes", len(b))
	}
	return d
}

// same asks whether two rows of records are, nil and empty being one.
func same(a, b []journal.Record) bool {
	if len(a) != len(b) {
		return false
	}
	for i := range a {
		if a[i].Kind != b[i].Kind || !bytes.Equal(a[i].Data, b[i].Data) {
			return false
		}
	}
	return true
}

// has holds a disk against what it ought to have.
func has(t *testing.T, name string, d *disk.Disk, want []byte, synced int) {
	t.Helper()
	if !bytes.Equal(d.Bytes(), want) {
		t.Fatalf("%s: the disk has %d bytes that aren't the %d that ought to be", name, len(d.Bytes()), len(want))
	}
	if d.Synced() != synced {
		t.Fatalf("%s: %d bytes are synced, not %d", name, d.Synced(), synced)
	}
}

// reads holds what Read tells against the records that ought to be, and an error; the disk stays as it is.
func reads(t *testing.T, name string, d *disk.Disk, want []journal.Record, err api.Errno) {
	t.Helper()
	b, synced := d.Bytes(), d.Synced()
	got, told := journal.Read(d)
	if !same(got, want) || told != err {
		t.Fatalf("%s: Read tells %d records, not %d; error %d, not %d", name, len(got), len(want), told, err)
	}
	has(t, name+", behind Read", d, b, synced)
}

// recovers holds what Recover leaves against the records that ought to be.
func recovers(t *testing.T, name string, d *disk.Disk, want []journal.Record) {
	t.Helper()
	got, err := journal.Recover(d)
	if !same(got, want) || err != api.OK {
		t.Fatalf("%s: Recover tells %d records, not %d; error %d", name, len(got), len(want), err)
	}
	b, _ := laid(want)
	has(t, name+", behind Recover", d, b, len(b))
	reads(t, name+", behind Recover", d, want, api.OK)
}

// refuses holds what Recover tells against an error; the disk stays as it is.
func refuses(t *testing.T, name string, d *disk.Disk, err api.Errno) {
	t.Helper()
	b, synced := d.Bytes(), d.Synced()
	if got, told := journal.Recover(d); got != nil || told != err {
		t.Fatalf("%s: Recover tells %d records, error %d, not %d", name, len(got), told, err)
	}
	has(t, name+", behind Recover", d, b, synced)
}

// rows are some records, one behind the other.
func rows() [][]journal.Record {
	r := rand.New(rand.NewSource(1))
	l := [][]journal.Record{
		nil,
		{{}},
		{{Kind: 1}},
		{{Kind: 255, Data: []byte{}}},
		{{Kind: 0, Data: []byte("hedge")}, {Kind: 165, Data: []byte{0, 0, 0, 165}}},
		{{Kind: 1, Data: []byte("a")}, {Kind: 2}, {Kind: 1, Data: []byte("bc")}},
		{{Kind: 7, Data: framed(journal.Record{Kind: 1, Data: []byte("in")})}, {}, {}},
		{{Kind: 2, Data: make([]byte, 260)}, {Kind: 1, Data: []byte("row")}},
	}
	for range 5 {
		var row []journal.Record
		for range 1 + r.Intn(4) {
			data := make([]byte, r.Intn(9))
			r.Read(data)
			row = append(row, journal.Record{Kind: byte(r.Intn(256)), Data: data})
		}
		l = append(l, row)
	}
	return l
}

// before is how many of some ends are not above a place.
func before(ends []int, place int) int {
	n := 0
	for n < len(ends) && ends[n] <= place {
		n++
	}
	return n
}

// end is where the first n of some records end.
func end(ends []int, n int) int {
	if n == 0 {
		return 0
	}
	return ends[n-1]
}

// TestExampleP11_1: two records, one synced, a crash that keeps half of the other: one is left.
func TestExampleP11_1(t *testing.T) {
	d := disk.New()
	one, two := journal.Record{Kind: 1, Data: []byte("one")}, journal.Record{Kind: 1, Data: []byte("two")}
	journal.Append(d, one)
	d.Sync()
	journal.Append(d, two)
	reads(t, "ahead of the crash", d, []journal.Record{one, two}, api.OK)
	d.Crash(6, -1, 0)
	reads(t, "behind the crash", d, []journal.Record{one}, api.ErrForm)
	recovers(t, "behind the crash", d, []journal.Record{one})
}

// TestBytesP11_1 tells some records' bytes one by one.
func TestBytesP11_1(t *testing.T) {
	d := disk.New()
	for _, r := range []journal.Record{{}, {Kind: '1', Data: []byte("23456789")}} {
		if got := journal.Append(d, r); got != api.OK {
			t.Fatalf("Append tells %d", got)
		}
	}
	want := append([]byte{1, 0, 0, 164, 0, 141, 239, 2, 210, 9, 0, 0, 172}, "123456789\x26\x39\xf4\xcb"...)
	has(t, "two records", d, want, 0)
	reads(t, "two records", d, []journal.Record{{}, {Kind: '1', Data: []byte("23456789")}}, api.OK)
}

func TestAppendP11_1(t *testing.T) {
	for i, row := range rows() {
		name := "row " + strconv.Itoa(i)
		b, ends := laid(row)
		d := disk.New()
		for n, r := range row {
			if got := journal.Append(d, r); got != api.OK {
				t.Fatalf("%s: Append tells %d", name, got)
			}
			has(t, name, d, b[:ends[n]], end(ends, n))
			reads(t, name, d, row[:n+1], api.OK)
			d.Sync()
		}
		reads(t, name, d, row, api.OK)
	}
}

// TestAppendOfTheMostP11_1: a record that fills the disk may be, not one of a byte more; nothing is written then.
func TestAppendOfTheMostP11_1(t *testing.T) {
	data := make([]byte, api.MaxDisk+1)
	rand.New(rand.NewSource(2)).Read(data)
	first := journal.Record{Kind: 3, Data: []byte("first")}
	room := api.MaxDisk - len(framed(first)) - len(framed(journal.Record{}))
	for _, c := range []struct {
		size int
		want api.Errno
	}{
		{room, api.OK}, {room - 1, api.OK}, {room + 1, api.ErrFull}, {room + 8, api.ErrFull},
		{api.MaxDisk - 1, api.ErrFull}, {api.MaxDisk, api.ErrFull}, {api.MaxDisk + 1, api.ErrFull},
	} {
		d := of(t, framed(first), len(framed(first)))
		more := journal.Record{Kind: 4, Data: data[:c.size]}
		if got := journal.Append(d, more); got != c.want {
			t.Errorf("Append of %d bytes tells %d, not %d", c.size, got, c.want)
		}
		want := []journal.Record{first}
		if c.want == api.OK {
			want = append(want, more)
		}
		reads(t, "behind an append of "+strconv.Itoa(c.size)+" bytes", d, want, api.OK)
		b, _ := laid(want)
		has(t, "behind an append", d, b, len(framed(first)))
		recovers(t, "behind an append", d, want)
	}
	// Lengths that three bytes can't tell: refused by the disk, whatever they would be cut to.
	for _, size := range []int{1<<24 - 2, 1<<24 - 1, 1 << 24, 1<<24 + 5} {
		d := disk.New()
		if got := journal.Append(d, journal.Record{Kind: 1, Data: make([]byte, size)}); got != api.ErrFull {
			t.Errorf("Append of %d bytes tells %d", size, got)
		}
		has(t, "a disk that was too small", d, nil, 0)
	}
}

// TestReadOfCutOnesP11_1 cuts records at all places, whatever of them is synced.
func TestReadOfCutOnesP11_1(t *testing.T) {
	for i, row := range rows() {
		name := "row " + strconv.Itoa(i)
		b, ends := laid(row)
		for cut := range len(b) + 1 {
			n, err := before(ends, cut), api.OK
			if end(ends, n) != cut {
				err = api.ErrForm
			}
			for _, synced := range []int{0, end(ends, n), cut} {
				reads(t, name+", cut at "+strconv.Itoa(cut), of(t, b[:cut], synced), row[:n], err)
			}
		}
	}
}

// faults are bytes that are no records, and what is told of them.
func faults() map[string]struct {
	b    []byte
	want api.Errno
} {
	wrong := framed(journal.Record{Kind: 5, Data: []byte("wrong")})
	wrong[6] ^= 4
	right := framed(journal.Record{Kind: 5, Data: []byte("right")})
	empty := frame.Put(nil, nil)
	long := []byte{1, 0, 16, 165 ^ 17}
	return map[string]struct {
		b    []byte
		want api.Errno
	}{
		"a byte":                         {[]byte{0}, api.ErrForm},
		"three bytes":                    {[]byte{1, 0, 0}, api.ErrForm},
		"four bytes of 0":                {make([]byte, 4), api.ErrCheck},
		"a text":                         {[]byte("hedgerow"), api.ErrCheck},
		"a cut frame":                    {right[:len(right)-1], api.ErrForm},
		"a turned frame":                 {wrong, api.ErrCheck},
		"a turned frame and another one": {append(bytes.Clone(wrong), right...), api.ErrCheck},
		"a length above MaxDisk":         {long, api.ErrLong},
		"that and another frame":         {append(bytes.Clone(long), right...), api.ErrLong},
		"an empty payload":               {empty, api.ErrForm},
		"two empty payloads":             {append(bytes.Clone(empty), empty...), api.ErrForm},
		"an empty payload and a record":  {append(bytes.Clone(empty), right...), api.ErrForm},
		"an empty payload that is cut":   {empty[:7], api.ErrForm},
		"an empty payload and a cut one": {append(bytes.Clone(empty), right[:9]...), api.ErrForm},
		// Of two errors the one that the chapter names first: what the frames tell.
		"an empty payload and a turned one":                       {append(bytes.Clone(empty), wrong...), api.ErrCheck},
		"an empty payload and a long one":                         {append(bytes.Clone(empty), long...), api.ErrLong},
		"an empty payload, a record, a turned one":                {append(append(bytes.Clone(empty), right...), wrong...), api.ErrCheck},
		"a turned frame and an empty payload":                     {append(bytes.Clone(wrong), empty...), api.ErrCheck},
		"an empty payload whose sum isn't right":                  {[]byte{0, 0, 0, 165, 1, 0, 0, 0}, api.ErrCheck},
		"an empty payload whose sum isn't right, and one of them": {append([]byte{0, 0, 0, 165, 1, 0, 0, 0}, empty...), api.ErrCheck},
	}
}

// TestReadOfFaultsP11_1: what is ahead of a fault is told beside its error.
func TestReadOfFaultsP11_1(t *testing.T) {
	for i, row := range rows() {
		b, _ := laid(row)
		for name, c := range faults() {
			all := append(bytes.Clone(b), c.b...)
			for _, synced := range []int{0, len(b), len(all)} {
				reads(t, "row "+strconv.Itoa(i)+" and "+name, of(t, all, synced), row, c.want)
			}
		}
	}
}

// TestRecoverOfFaultsP11_1: a fault in the tail goes, with all behind it; one that begins in what is synced is told.
func TestRecoverOfFaultsP11_1(t *testing.T) {
	for i, row := range rows() {
		b, ends := laid(row)
		for name, c := range faults() {
			name = "row " + strconv.Itoa(i) + " and " + name
			all := append(bytes.Clone(b), c.b...)
			for n := range len(row) + 1 {
				recovers(t, name, of(t, all, end(ends, n)), row)
			}
			if len(b) > 0 {
				recovers(t, name, of(t, all, len(b)-1), row)
			}
			for synced := len(b) + 1; synced <= len(all); synced++ {
				refuses(t, name, of(t, all, synced), c.want)
			}
		}
	}
}

// TestRecoverOfCutOnesP11_1 cuts records at all places, with all numbers of bytes synced, within records, too.
func TestRecoverOfCutOnesP11_1(t *testing.T) {
	for i, row := range rows() {
		b, ends := laid(row)
		for cut := range len(b) + 1 {
			n := before(ends, cut)
			for synced := range cut + 1 {
				if synced > 40 && synced < cut-40 {
					continue
				}
				name := "row " + strconv.Itoa(i) + ", cut at " + strconv.Itoa(cut) + ", synced to " + strconv.Itoa(synced)
				d := of(t, b[:cut], synced)
				if synced <= end(ends, n) {
					recovers(t, name, d, row[:n])
				} else {
					refuses(t, name, d, api.ErrForm)
				}
			}
		}
	}
}

// TestRecoverTwiceP11_1: behind a Recover records come behind those that were left.
func TestRecoverTwiceP11_1(t *testing.T) {
	one, two, three := journal.Record{Kind: 1, Data: []byte("one")}, journal.Record{Kind: 2}, journal.Record{Kind: 3, Data: []byte("three")}
	d := disk.New()
	recovers(t, "an empty disk", d, nil)
	journal.Append(d, one)
	recovers(t, "one", d, []journal.Record{one})
	journal.Append(d, two)
	journal.Append(d, three)
	d.Crash(len(framed(two))+5, -1, 0)
	recovers(t, "two and a part", d, []journal.Record{one, two})
	recovers(t, "once more", d, []journal.Record{one, two})
	journal.Append(d, three)
	reads(t, "a third one behind", d, []journal.Record{one, two, three}, api.OK)
	d.Crash(0, -1, 0)
	recovers(t, "the third one lost", d, []journal.Record{one, two})
}

func TestRewriteP11_1(t *testing.T) {
	first := framed(journal.Record{Kind: 9, Data: []byte("first")})
	torn := append(bytes.Clone(first), first[:7]...)
	for i, row := range rows() {
		b, _ := laid(row)
		for _, d := range []*disk.Disk{disk.New(), of(t, first, 0), of(t, first, len(first)), of(t, torn, len(first)), of(t, torn, len(torn))} {
			if got := journal.Rewrite(d, row); got != api.OK {
				t.Fatalf("row %d: Rewrite tells %d", i, got)
			}
			name := "row " + strconv.Itoa(i) + ", rewritten"
			has(t, name, d, b, len(b))
			reads(t, name, d, row, api.OK)
			d.Crash(0, 0, 255)
			recovers(t, name, d, row)
		}
	}
}

// TestRewriteOfTheMostP11_1: records that fill the disk may be, not those of a byte more; nothing changes then.
func TestRewriteOfTheMostP11_1(t *testing.T) {
	data := make([]byte, api.MaxDisk+1)
	rand.New(rand.NewSource(3)).Read(data)
	first := framed(journal.Record{Kind: 9, Data: []byte("first")})
	old := append(bytes.Clone(first), first...)
	half := journal.Record{Kind: 1, Data: data[:api.MaxDisk/2-9]}
	more := journal.Record{Kind: 1, Data: data[:api.MaxDisk/2-8]}
	least := make([]journal.Record, api.MaxDisk/9)
	for name, c := range map[string]struct {
		l    []journal.Record
		want api.Errno
	}{
		"one that fills it":          {[]journal.Record{{Kind: 2, Data: data[:api.MaxDisk-9]}}, api.OK},
		"one of a byte more":         {[]journal.Record{{Kind: 2, Data: data[:api.MaxDisk-8]}}, api.ErrFull},
		"one of MaxDisk bytes":       {[]journal.Record{{Kind: 2, Data: data[:api.MaxDisk]}}, api.ErrFull},
		"one of more":                {[]journal.Record{{Kind: 2, Data: data}}, api.ErrFull},
		"one of 2^24 bytes":          {[]journal.Record{{Kind: 2, Data: make([]byte, 1<<24)}}, api.ErrFull},
		"two that fill it":           {[]journal.Record{half, half}, api.OK},
		"two of a byte more":         {[]journal.Record{half, more}, api.ErrFull},
		"two of a byte more, turned": {[]journal.Record{more, half}, api.ErrFull},
		"one too many":               {[]journal.Record{half, half, {}}, api.ErrFull},
		"a long one ahead of others": {[]journal.Record{{Data: data}, {}, {Kind: 1}}, api.ErrFull},
		"a long one behind others":   {[]journal.Record{{}, {Kind: 1}, {Data: data}}, api.ErrFull},
		"a long one among others":    {[]journal.Record{{}, {Data: data}, {Kind: 1}}, api.ErrFull},
		"many that fit":              {least, api.OK},
		"many, one too many":         {append(least[:len(least):len(least)], journal.Record{}), api.ErrFull},
	} {
		d := of(t, old, len(first))
		if got := journal.Rewrite(d, c.l); got != c.want {
			t.Errorf("%s: %d, not %d", name, got, c.want)
		}
		if c.want == api.OK {
			b, _ := laid(c.l)
			has(t, name, d, b, len(b))
			reads(t, name, d, c.l, api.OK)
		} else {
			has(t, name, d, old, len(first))
		}
	}
}

func TestSizeP11_1(t *testing.T) {
	for i, row := range rows() {
		b, ends := laid(row)
		for n := range len(row) + 1 {
			if got := journal.Size(row[:n]); got != end(ends, n) {
				t.Errorf("row %d: the first %d have %d bytes, not %d", i, n, got, end(ends, n))
			}
		}
		d := disk.New()
		journal.Rewrite(d, row)
		if got := journal.Size(row); got != len(b) || got != d.Synced() {
			t.Errorf("row %d: Size is %d, not %d", i, got, len(b))
		}
	}
	if journal.Size(nil) != 0 || journal.Size([]journal.Record{}) != 0 {
		t.Error("nothing has a size")
	}
	// The sizes are layer 4's, which knows no frame of more than MaxDisk bytes.
	data := make([]byte, api.MaxDisk+1)
	for size, want := range map[int]int{
		0: 9, 1: 10, 254: 263, 255: 264, 65535: 65544, api.MaxDisk - 9: api.MaxDisk,
		api.MaxDisk - 1: api.MaxDisk + 8, api.MaxDisk: 0, api.MaxDisk + 1: 0,
	} {
		r := journal.Record{Kind: 200, Data: data[:size]}
		if got := journal.Size([]journal.Record{r}); got != want {
			t.Errorf("a record of %d bytes has %d", size, got)
		}
		if got := journal.Size([]journal.Record{{}, r, r}); got != 9+2*want {
			t.Errorf("two records of %d bytes and an empty one have %d", size, got)
		}
	}
}

func TestNoDiskP11_1(t *testing.T) {
	long := journal.Record{Data: make([]byte, api.MaxDisk+1)}
	for _, r := range []journal.Record{{}, {Kind: 1, Data: []byte("a")}, long} {
		if got := journal.Append(nil, r); got != api.ErrArg {
			t.Errorf("Append to nil of %d bytes tells %d", len(r.Data), got)
		}
		if got := journal.Rewrite(nil, []journal.Record{r}); got != api.ErrArg {
			t.Errorf("Rewrite of nil with %d bytes tells %d", len(r.Data), got)
		}
	}
	if got := journal.Rewrite(nil, nil); got != api.ErrArg {
		t.Errorf("Rewrite of nil with nothing tells %d", got)
	}
	if l, err := journal.Read(nil); l != nil || err != api.ErrArg {
		t.Errorf("Read of nil tells %v, %d", l, err)
	}
	if l, err := journal.Recover(nil); l != nil || err != api.ErrArg {
		t.Errorf("Recover of nil tells %v, %d", l, err)
	}
}

// TestZeroDiskP11_1: a disk that New didn't make takes records, too.
func TestZeroDiskP11_1(t *testing.T) {
	var d disk.Disk
	reads(t, "the zero disk", &d, nil, api.OK)
	recovers(t, "the zero disk", &d, nil)
	r := journal.Record{Kind: 1, Data: []byte("a")}
	journal.Append(&d, r)
	recovers(t, "the zero disk, written", &d, []journal.Record{r})
}

// TestMemoryP11_1: records share no memory with a disk, with what was handed in, or with each other.
func TestMemoryP11_1(t *testing.T) {
	room := []byte("hedgerow")
	one, two := journal.Record{Kind: 1, Data: room[:5]}, journal.Record{Kind: 2, Data: room[5:]}
	row := []journal.Record{one, two}
	want := []journal.Record{{Kind: 1, Data: []byte("hedge")}, {Kind: 2, Data: []byte("row")}}
	appended, rewritten := disk.New(), disk.New()
	journal.Append(appended, one)
	journal.Append(appended, two)
	journal.Rewrite(rewritten, row)
	if string(room) != "hedgerow" || !same(row, want) {
		t.Fatal("what was handed in is changed")
	}
	clear(room)
	for name, d := range map[string]*disk.Disk{"appended": appended, "rewritten": rewritten} {
		reads(t, name, d, want, api.OK)
		first, _ := journal.Read(d)
		second, _ := journal.Recover(d)
		for _, l := range [][]journal.Record{first, second} {
			_ = append(l[0].Data, "!!!!!!!!!!!!!!!!!!!!!!!!"...)
			clear(l[0].Data)
			if string(l[1].Data) != "row" {
				t.Errorf("%s: two records share memory: %q", name, l[1].Data)
			}
			clear(l[1].Data)
		}
		reads(t, name+", answers changed", d, want, api.OK)
		third, _ := journal.Read(d)
		for at := range d.Bytes() {
			d.Spoil(at, 255)
		}
		if !same(third, want) {
			t.Errorf("%s: records change with the disk", name)
		}
	}
}

// TestCrashP11_2 lets all crashes that turn a byte by some bits hit all rows, whatever of them is synced.
func TestCrashP11_2(t *testing.T) {
	for i, row := range rows() {
		b, ends := laid(row)
		for n := range len(row) + 1 {
			synced := end(ends, n)
			tail := len(b) - synced
			if tail > 60 {
				continue
			}
			for keep := -1; keep <= tail+1; keep++ {
				for at := -1; at <= tail; at++ {
					for _, by := range []byte{0, 1, 16, 128, 255} {
						d := of(t, b, synced)
						d.Crash(keep, at, by)
						place := synced + max(0, min(keep, tail))
						if 0 <= at && synced+at < place && by != 0 {
							place = synced + at
						}
						name := "row " + strconv.Itoa(i) + ", " + strconv.Itoa(keep) + " kept, turned at " + strconv.Itoa(at)
						recovers(t, name, d, row[:before(ends, place)])
					}
				}
			}
		}
	}
}

// TestCrashInRecordP11_2: also where a part of a record is synced, all whole synced ones are left, or it is told.
func TestCrashInRecordP11_2(t *testing.T) {
	row := []journal.Record{{Kind: 1, Data: []byte("a")}, {Kind: 2}, {Kind: 1, Data: []byte("bc")}}
	b, ends := laid(row)
	for synced := range len(b) + 1 {
		tail := len(b) - synced
		for keep := range tail + 1 {
			for at := -1; at < keep; at++ {
				d := of(t, b, synced)
				d.Crash(keep, at, 32)
				place := synced + keep
				if at >= 0 {
					place = synced + at
				}
				n := before(ends, place)
				if end(ends, n) >= synced {
					recovers(t, "a crash in a record", d, row[:n])
				} else if at >= 0 {
					refuses(t, "a crash in a record", d, told(d))
				} else {
					refuses(t, "a crash in a record", d, api.ErrForm)
				}
			}
		}
	}
}

// told is Read's error.
func told(d *disk.Disk) api.Errno {
	_, err := journal.Read(d)
	return err
}

// TestManyCrashesP11_2 lets a journal live through many crashes: none loses what was synced, none makes a record up.
func TestManyCrashesP11_2(t *testing.T) {
	r := rand.New(rand.NewSource(4))
	lost, torn := 0, 0
	for range 300 {
		d := disk.New()
		var all []journal.Record
		synced := 0
		for range 30 {
			for range r.Intn(5) {
				data := make([]byte, r.Intn(30))
				r.Read(data)
				more := journal.Record{Kind: byte(r.Intn(4)), Data: data}
				if journal.Append(d, more) != api.OK {
					t.Fatal("a record isn't written")
				}
				all = append(all, more)
			}
			if r.Intn(3) == 0 {
				d.Sync()
				synced = len(all)
			}
			d.Crash(r.Intn(120), r.Intn(240)-120, byte(r.Intn(256)))
			if told(d) != api.OK {
				torn++
			}
			got, err := journal.Recover(d)
			if err != api.OK || len(got) < synced || len(got) > len(all) || !same(got, all[:len(got)]) {
				t.Fatalf("of %d records, %d synced, %d are left, error %d", len(all), synced, len(got), err)
			}
			lost += len(all) - len(got)
			all, synced = got, len(got)
		}
	}
	if lost < 1000 || torn < 1000 {
		t.Errorf("%d records were lost, %d journals torn", lost, torn)
	}
}

// TestSpoilP11_3 turns each byte by all bits, whatever of the row is synced: told, if it is synced; else what is whole ahead of it is left.
func TestSpoilP11_3(t *testing.T) {
	for i, row := range rows() {
		b, ends := laid(row)
		if len(b) > 100 {
			continue
		}
		for at := range b {
			for by := range 256 {
				for n := range len(row) + 1 {
					synced := end(ends, n)
					d := of(t, b, synced)
					d.Spoil(at, byte(by))
					name := "row " + strconv.Itoa(i) + ", turned at " + strconv.Itoa(at) + " by " + strconv.Itoa(by)
					switch {
					case by == 0:
						recovers(t, name, d, row)
					case at < synced:
						refuses(t, name, d, api.ErrCheck)
					default:
						recovers(t, name, d, row[:before(ends, at)])
					}
				}
			}
		}
	}
}

// TestSpoilAndCrashP11_3: a spoilt byte of what is synced is told behind a crash, too, whatever that keeps and turns.
func TestSpoilAndCrashP11_3(t *testing.T) {
	r := rand.New(rand.NewSource(5))
	for range 20000 {
		row := rows()[1+r.Intn(6)]
		b, ends := laid(row)
		synced := end(ends, 1+r.Intn(len(row)))
		d := of(t, b, synced)
		d.Spoil(r.Intn(synced), byte(1+r.Intn(255)))
		d.Crash(r.Intn(60), r.Intn(60), byte(r.Intn(256)))
		refuses(t, "spoilt, and a crash", d, api.ErrCheck)
	}
}

// TestSpoilOfALongOneP11_3 turns bytes, here and there, of a record that fills a disk.
func TestSpoilOfALongOneP11_3(t *testing.T) {
	r := rand.New(rand.NewSource(6))
	data := make([]byte, api.MaxDisk-9)
	r.Read(data)
	d := disk.New()
	journal.Rewrite(d, []journal.Record{{Kind: 2, Data: data}})
	for _, at := range []int{0, 1, 2, 3, 4, 5, 6 + r.Intn(api.MaxDisk-16), api.MaxDisk - 5, api.MaxDisk - 4, api.MaxDisk - 1} {
		by := byte(1 + r.Intn(255))
		d.Spoil(at, by)
		refuses(t, "a long one, turned at "+strconv.Itoa(at), d, api.ErrCheck)
		d.Spoil(at, by)
	}
	recovers(t, "a long one", d, []journal.Record{{Kind: 2, Data: data}})
}

// TestNoPanicP5 asks all calls of disks of all sorts: a panic fails it, and so does what doesn't end.
func TestNoPanicP5(t *testing.T) {
	r := rand.New(rand.NewSource(7))
	for range 50000 {
		var b []byte
		for range r.Intn(5) {
			part := make([]byte, r.Intn(12))
			r.Read(part)
			if r.Intn(4) > 0 {
				part = frame.Put(nil, part)
			}
			b = append(b, part...)
		}
		d := of(t, b, r.Intn(len(b)+1))
		d.Crash(r.Intn(60), r.Intn(60)-30, byte(r.Intn(256)))
		b, synced := d.Bytes(), d.Synced()
		l, err := journal.Read(d)
		whole, ends := laid(l)
		if !bytes.HasPrefix(b, whole) || (err == api.OK) != (len(whole) == len(b)) {
			t.Fatalf("Read of %v: %d records, error %d", b, len(l), err)
		}
		if synced > end(ends, len(l)) {
			refuses(t, "bytes of all sorts", d, err)
		} else {
			recovers(t, "bytes of all sorts", d, l)
		}
		if journal.Size(l) != len(whole) || journal.Rewrite(d, l) != api.OK || journal.Append(d, journal.Record{Kind: byte(r.Intn(math.MaxUint8))}) != api.OK {
			t.Fatalf("records of %v aren't written", b)
		}
	}
}
