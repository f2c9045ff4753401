package frame

import (
	"bytes"
	"encoding/binary"
	"hash/crc32"
	"math"
	"math/rand"
	"strconv"
	"testing"

	"hedgerow/api"
)

// framed is the chapter's sentence on a frame, by another's hand; of a payload whose length three bytes can tell.
func framed(payload []byte) []byte {
	n := len(payload)
	out := []byte{byte(n % 256), byte(n / 256 % 256), byte(n / 65536), 0}
	out[3] = 165 ^ out[0] ^ out[1] ^ out[2]
	out = append(out, payload...)
	return binary.LittleEndian.AppendUint32(out, crc32.ChecksumIEEE(payload))
}

// some are that many bytes of no pattern.
func some(r *rand.Rand, size int) []byte {
	b := make([]byte, size)
	r.Read(b)
	return b
}

// payloads are some of all sorts: such as look like frames, too.
func payloads() [][]byte {
	r := rand.New(rand.NewSource(1))
	l := [][]byte{nil, {}, {0}, {165}, []byte("123456789"), framed(nil), framed([]byte("hi")), append(framed(nil), framed([]byte("a"))...), make([]byte, 8), bytes.Repeat([]byte{255}, 9)}
	for _, size := range []int{1, 2, 3, 4, 5, 7, 8, 9, 127, 128, 254, 255, 256, 257, 511, 65535, 65536, 65537} {
		l = append(l, some(r, size))
	}
	return l
}

// refused holds what Take, Whole and All tell of bytes against an error of their first frame.
func refused(t *testing.T, name string, b []byte, want api.Errno) {
	t.Helper()
	if p, size, err := Take(b); err != want || len(p) != 0 || size != 0 {
		t.Errorf("%s: Take tells %d bytes, %d, error %d, not %d", name, len(p), size, err, want)
	}
	if p, err := Whole(b); err != want || len(p) != 0 {
		t.Errorf("%s: Whole tells %d bytes, error %d, not %d", name, len(p), err, want)
	}
	if len(b) == 0 {
		return
	}
	if l, end, err := All(b); err != want || len(l) != 0 || end != 0 {
		t.Errorf("%s: All tells %d payloads, %d, error %d, not %d", name, len(l), end, err, want)
	}
}

func TestPutP4_1(t *testing.T) {
	for _, c := range []struct{ payload, want []byte }{
		{nil, []byte{0, 0, 0, 165, 0, 0, 0, 0}},
		{[]byte{}, []byte{0, 0, 0, 165, 0, 0, 0, 0}},
		{[]byte{0}, []byte{1, 0, 0, 164, 0, 141, 239, 2, 210}},
		{[]byte("123456789"), append([]byte{9, 0, 0, 172}, "123456789\x26\x39\xf4\xcb"...)},
	} {
		if got := Put(nil, c.payload); !bytes.Equal(got, c.want) {
			t.Errorf("Put(nil, %q) is %v", c.payload, got)
		}
		if got := Put([]byte{7, 9}, c.payload); !bytes.Equal(got, append([]byte{7, 9}, c.want...)) {
			t.Errorf("Put(7 9, %q) is %v", c.payload, got)
		}
	}
	for _, p := range payloads() {
		if got := Put([]byte("ahead"), p); !bytes.Equal(got, append([]byte("ahead"), framed(p)...)) {
			t.Errorf("Put of %d bytes isn't the frame", len(p))
		}
	}
	// The three bytes of a length each count, and each turns the fourth.
	for size, want := range map[int][]byte{
		5:       {5, 0, 0, 160},
		256:     {0, 1, 0, 164},
		65536:   {0, 0, 1, 164},
		0x012a3: {0xa3, 0x12, 0, 0x14},
		0x54321: {0x21, 0x43, 5, 0xc2},
	} {
		if got := Put(nil, make([]byte, size))[:4]; !bytes.Equal(got, want) {
			t.Errorf("the frame of %d bytes begins with %v", size, got)
		}
	}
}

// TestPutOfTheLongestP4_1: a payload of MaxDisk bytes is read, one of more is laid, but refused, however long it is.
func TestPutOfTheLongestP4_1(t *testing.T) {
	p := some(rand.New(rand.NewSource(2)), api.MaxDisk+1)
	b := Put(nil, p[:api.MaxDisk])
	if !bytes.Equal(b, framed(p[:api.MaxDisk])) || len(b) != Size(api.MaxDisk) {
		t.Error("the frame of MaxDisk bytes isn't right")
	}
	if got, size, err := Take(b); err != api.OK || size != len(b) || !bytes.Equal(got, p[:api.MaxDisk]) {
		t.Errorf("Take of MaxDisk bytes: %d bytes, %d, error %d", len(got), size, err)
	}
	if got, err := Whole(b); err != api.OK || !bytes.Equal(got, p[:api.MaxDisk]) {
		t.Errorf("Whole of MaxDisk bytes: %d bytes, error %d", len(got), err)
	}
	if l, end, err := All(b); err != api.OK || end != len(b) || len(l) != 1 || !bytes.Equal(l[0], p[:api.MaxDisk]) {
		t.Errorf("All of MaxDisk bytes: %d payloads, %d, error %d", len(l), end, err)
	}
	refused(t, "MaxDisk bytes, cut", b[:len(b)-1], api.ErrForm)
	b = Put(nil, p)
	if !bytes.Equal(b, framed(p)) {
		t.Error("the frame of MaxDisk + 1 bytes isn't laid")
	}
	refused(t, "MaxDisk + 1 bytes", b, api.ErrLong)
	for _, size := range []int{1<<24 - 1, 1 << 24, 1<<24 + 1, 1<<24 + 4} {
		b := Put([]byte{1}, make([]byte, size))
		if len(b) != size+9 || b[0] != 1 {
			t.Errorf("behind a byte the frame of %d bytes has %d", size, len(b)-1)
		}
		refused(t, strconv.Itoa(size)+" bytes", b[1:], api.ErrLong)
	}
}

func TestSizeP4_1(t *testing.T) {
	for n, want := range map[int]int{
		-1: 0, 0: 8, 1: 9, 2: 10, 255: 263, 256: 264,
		api.MaxDisk - 1: api.MaxDisk + 7, api.MaxDisk: api.MaxDisk + 8, api.MaxDisk + 1: 0,
		1 << 24: 0, 1 << 40: 0, math.MaxInt: 0, math.MaxInt - 7: 0, math.MinInt: 0, math.MinInt + 1: 0, -8: 0, -9: 0,
	} {
		if got := Size(n); got != want {
			t.Errorf("Size(%d) is %d", n, got)
		}
	}
	for _, p := range payloads() {
		if got := Size(len(p)); got != len(Put(nil, p)) {
			t.Errorf("Size(%d) is %d", len(p), got)
		}
	}
}

func TestTakeP4_1(t *testing.T) {
	for _, p := range payloads() {
		b := framed(p)
		for _, more := range [][]byte{nil, {0}, {165}, framed([]byte("b")), bytes.Repeat([]byte{255}, 20)} {
			got, size, err := Take(append(bytes.Clone(b), more...))
			if err != api.OK || size != len(b) || !bytes.Equal(got, p) {
				t.Errorf("Take of %d bytes, %d behind: %d bytes, %d, error %d", len(p), len(more), len(got), size, err)
			}
		}
	}
}

// TestErrorsP4_1: where several apply, it is the one that the chapter names first.
func TestErrorsP4_1(t *testing.T) {
	for _, c := range []struct {
		name string
		b    []byte
		want api.Errno
	}{
		{"nothing", nil, api.ErrForm},
		{"one byte", []byte{0}, api.ErrForm},
		{"two bytes", []byte{0, 0}, api.ErrForm},
		{"three bytes", []byte{0, 0, 0}, api.ErrForm},
		{"three bytes of a length above MaxDisk", []byte{255, 255, 255}, api.ErrForm},
		{"a fourth byte of 0", []byte{0, 0, 0, 0}, api.ErrCheck},
		{"all bytes 0", make([]byte, 8), api.ErrCheck},
		{"a fourth byte that isn't turned", []byte{1, 0, 0, 165, 0, 141, 239, 2, 210}, api.ErrCheck},
		{"a fourth byte that is turned by one only", []byte{1, 2, 0, 164}, api.ErrCheck},
		{"a fourth byte of one bit more", []byte{0, 0, 0, 164, 0, 0, 0, 0}, api.ErrCheck},
		{"a wrong fourth byte, a length above MaxDisk", []byte{255, 255, 255, 165}, api.ErrCheck},
		{"a wrong fourth byte, too few bytes", []byte{9, 0, 0, 165, 1}, api.ErrCheck},
		{"a length of MaxDisk + 1, too few bytes", []byte{1, 0, 16, 165 ^ 17}, api.ErrLong},
		{"a length of MaxDisk + 256, too few bytes", []byte{0, 1, 16, 165 ^ 17}, api.ErrLong},
		{"the greatest length, too few bytes", []byte{255, 255, 255, 165 ^ 255, 1, 2, 3, 4, 5, 6, 7, 8}, api.ErrLong},
		{"a length of MaxDisk, too few bytes", []byte{0, 0, 16, 165 ^ 16, 1, 2, 3}, api.ErrForm},
		{"no sum", []byte{0, 0, 0, 165}, api.ErrForm},
		{"three bytes of a sum", []byte{0, 0, 0, 165, 0, 0, 0}, api.ErrForm},
		{"three bytes of a wrong sum", []byte{0, 0, 0, 165, 1, 1, 1}, api.ErrForm},
		{"one byte of two", []byte{2, 0, 0, 167, 'h'}, api.ErrForm},
		{"a sum that isn't right", []byte{0, 0, 0, 165, 1, 0, 0, 0}, api.ErrCheck},
		{"a sum whose last byte isn't right", []byte{0, 0, 0, 165, 0, 0, 0, 1}, api.ErrCheck},
		{"a sum with its highest byte first", []byte{1, 0, 0, 164, 0, 210, 2, 239, 141}, api.ErrCheck},
		{"a sum of other bytes", []byte{1, 0, 0, 164, 1, 141, 239, 2, 210}, api.ErrCheck},
		{"a sum that isn't right, and more behind", []byte{0, 0, 0, 165, 1, 0, 0, 0, 9}, api.ErrCheck},
	} {
		refused(t, c.name, c.b, c.want)
	}
	b := framed(make([]byte, api.MaxDisk+1))
	b[len(b)-1] ^= 1
	refused(t, "a length of MaxDisk + 1, a sum that isn't right", b, api.ErrLong)
}

func TestWholeP4_1(t *testing.T) {
	for _, p := range payloads() {
		b := framed(p)
		if got, err := Whole(b); err != api.OK || !bytes.Equal(got, p) {
			t.Errorf("Whole of the frame of %d bytes: %d bytes, error %d", len(p), len(got), err)
		}
		for _, more := range [][]byte{{0}, {165}, {0, 0, 0, 165}, framed(nil), b} {
			got, err := Whole(append(bytes.Clone(b), more...))
			if err != api.ErrForm || len(got) != 0 {
				t.Errorf("Whole of the frame of %d bytes and %d more: %d bytes, error %d", len(p), len(more), len(got), err)
			}
		}
	}
}

// TestSharesNothingP4_1: answers are new memory, and what is handed in isn't written to, its room behind it neither.
func TestSharesNothingP4_1(t *testing.T) {
	room := bytes.Repeat([]byte{5}, 64)
	payload := []byte("hedge")
	put := Put(room[:3], payload)
	if !bytes.Equal(room, bytes.Repeat([]byte{5}, 64)) || string(payload) != "hedge" {
		t.Error("Put writes to what was handed in")
	}
	clear(room)
	clear(payload)
	if want := append([]byte{5, 5, 5}, framed([]byte("hedge"))...); !bytes.Equal(put, want) {
		t.Errorf("Put shares memory with what was handed in: %v", put)
	}
	two := append(framed([]byte("hedge")), framed([]byte("row"))...)
	before := bytes.Clone(two)
	first, size, _ := Take(two)
	whole, _ := Whole(two[:size])
	l, _, _ := All(two)
	if !bytes.Equal(two, before) {
		t.Error("reading changes bytes")
	}
	clear(two)
	if string(first) != "hedge" || string(whole) != "hedge" || len(l) != 2 || string(l[0]) != "hedge" || string(l[1]) != "row" {
		t.Errorf("behind a change of the bytes: %q, %q, %q", first, whole, l)
	}
	// Nor do two payloads of one answer share any, the room behind them neither.
	_ = append(l[0], "!!!!!!!!!!!!!!!!!!!!!!!!"...)
	l[0][0] = '?'
	if string(l[1]) != "row" || string(first) != "hedge" || string(whole) != "hedge" {
		t.Errorf("behind a change of one payload: %q, %q, %q", l[1], first, whole)
	}
}

// rows are some payloads' frames, one behind the other.
func rows() [][][]byte {
	r := rand.New(rand.NewSource(3))
	l := [][][]byte{
		{},
		{nil},
		{nil, nil, nil},
		{[]byte("a")},
		{[]byte("a"), nil, []byte("bc")},
		{framed([]byte("in")), framed(nil)},
		{some(r, 300), []byte("x"), some(r, 40)},
	}
	for range 6 {
		var row [][]byte
		for range r.Intn(6) {
			row = append(row, some(r, r.Intn(14)))
		}
		l = append(l, row)
	}
	return l
}

// laid are a row's frames, and where each of them ends.
func laid(row [][]byte) ([]byte, []int) {
	var b []byte
	var ends []int
	for _, p := range row {
		b = append(b, framed(p)...)
		ends = append(ends, len(b))
	}
	return b, ends
}

// told holds what All tells of bytes against the first n payloads of a row, and an error.
func told(t *testing.T, name string, b []byte, row [][]byte, ends []int, n int, want api.Errno) {
	t.Helper()
	end := 0
	if n > 0 {
		end = ends[n-1]
	}
	l, at, err := All(b)
	if len(l) != n || at != end || err != want {
		t.Fatalf("%s: All tells %d payloads, not %d; %d, not %d; error %d, not %d", name, len(l), n, at, end, err, want)
	}
	for i := range l {
		if !bytes.Equal(l[i], row[i]) {
			t.Fatalf("%s: payload %d is %v, not %v", name, i, l[i], row[i])
		}
	}
}

// before is how many of some ends are not above a place.
func before(ends []int, place int) int {
	n := 0
	for n < len(ends) && ends[n] <= place {
		n++
	}
	return n
}

func TestAllOfWholeOnesP4_2(t *testing.T) {
	for _, b := range [][]byte{nil, {}} {
		told(t, "nothing", b, nil, nil, 0, api.OK)
	}
	for i, row := range rows() {
		b, ends := laid(row)
		told(t, "row "+strconv.Itoa(i), b, row, ends, len(row), api.OK)
		var put []byte
		for _, p := range row {
			put = Put(put, p)
		}
		if !bytes.Equal(put, b) {
			t.Errorf("row %d is put as %v", i, put)
		}
	}
	var many []byte
	for range 1 << 17 {
		many = append(many, 0, 0, 0, 165, 0, 0, 0, 0)
	}
	if l, end, err := All(many); len(l) != 1<<17 || end != len(many) || err != api.OK {
		t.Errorf("of many frames of nothing: %d payloads, %d, error %d", len(l), end, err)
	}
}

func TestAllOfCutOnesP4_2(t *testing.T) {
	for i, row := range rows() {
		b, ends := laid(row)
		for cut := range len(b) {
			n, want := before(ends, cut), api.ErrForm
			if cut == 0 || n > 0 && ends[n-1] == cut {
				want = api.OK
			}
			// What stood behind the cut isn't looked at, though its memory is still there.
			told(t, "row "+strconv.Itoa(i)+" cut at "+strconv.Itoa(cut), b[:cut], row, ends, n, want)
		}
	}
}

func TestAllOfTurnedOnesP4_2(t *testing.T) {
	for i, row := range rows() {
		b, ends := laid(row)
		for at := range b {
			for by := 1; by < 256; by++ {
				b[at] ^= byte(by)
				told(t, "row "+strconv.Itoa(i)+", turned at "+strconv.Itoa(at)+" by "+strconv.Itoa(by), b, row, ends, before(ends, at), api.ErrCheck)
				b[at] ^= byte(by)
			}
		}
	}
}

// TestTurnedAndCutP4_2: a turned byte is told from its frame on, cut or not; of what is left no payload is made up.
func TestTurnedAndCutP4_2(t *testing.T) {
	r := rand.New(rand.NewSource(4))
	for range 20000 {
		row := rows()[r.Intn(7)]
		b, ends := laid(row)
		if len(b) == 0 {
			continue
		}
		at, cut := r.Intn(len(b)), r.Intn(len(b)+1)
		b[at] ^= byte(1 + r.Intn(255))
		n := before(ends, min(at, cut))
		l, end, err := All(b[:cut])
		whole := n == len(ends) || cut == 0 || n > 0 && ends[n-1] == cut
		if len(l) != n || (err == api.OK) != whole || n > 0 && end != ends[n-1] || n == 0 && end != 0 {
			t.Fatalf("turned at %d, cut at %d: %d payloads, %d, error %d", at, cut, len(l), end, err)
		}
	}
}

func TestAllWithMoreBehindP4_2(t *testing.T) {
	wrong := framed([]byte("wrong"))
	wrong[6] ^= 4
	long := []byte{1, 0, 16, 165 ^ 17}
	for i, row := range rows() {
		b, ends := laid(row)
		for name, c := range map[string]struct {
			more []byte
			want api.Errno
		}{
			"a byte":                   {[]byte{0}, api.ErrForm},
			"three bytes":              {[]byte{0, 0, 0}, api.ErrForm},
			"four bytes of 0":          {make([]byte, 4), api.ErrCheck},
			"a text":                   {[]byte("hedgerow"), api.ErrCheck},
			"a frame's head":           {[]byte{0, 0, 0, 165}, api.ErrForm},
			"a cut frame":              {framed([]byte("cut"))[:10], api.ErrForm},
			"a wrong frame":            {wrong, api.ErrCheck},
			"a wrong frame and others": {append(bytes.Clone(wrong), framed([]byte("right"))...), api.ErrCheck},
			"a length above MaxDisk":   {long, api.ErrLong},
			"that and a whole frame":   {append(bytes.Clone(long), framed(nil)...), api.ErrLong},
		} {
			told(t, "row "+strconv.Itoa(i)+" and "+name, append(bytes.Clone(b), c.more...), row, ends, len(row), c.want)
		}
	}
}

// TestLongOnesTurnedP4_2 turns bytes, here and there, of a frame of MaxDisk bytes behind a short one.
func TestLongOnesTurnedP4_2(t *testing.T) {
	r := rand.New(rand.NewSource(5))
	row := [][]byte{[]byte("short"), some(r, api.MaxDisk)}
	b, ends := laid(row)
	told(t, "a long frame", b, row, ends, 2, api.OK)
	for _, at := range []int{ends[0], ends[0] + 2, ends[0] + 3, ends[0] + 4, ends[0] + 5 + r.Intn(api.MaxDisk-2), len(b) - 5, len(b) - 4, len(b) - 1} {
		by := byte(1 + r.Intn(255))
		b[at] ^= by
		told(t, "a long frame turned at "+strconv.Itoa(at), b, row, ends, 1, api.ErrCheck)
		b[at] ^= by
	}
}

// TestNoPanicP5 asks all calls at arguments of all sorts: a panic fails it, and so does what doesn't end.
func TestNoPanicP5(t *testing.T) {
	r := rand.New(rand.NewSource(6))
	for range 50000 {
		b := some(r, r.Intn(30))
		if len(b) > 3 && r.Intn(4) > 0 {
			b[1], b[2] = 16*byte(r.Intn(2)), 16*byte(r.Intn(2))
			b[0] %= 16
			b[3] = 165 ^ b[0] ^ b[1] ^ b[2]
		}
		p, size, err := Take(b)
		if err == api.OK && (size > len(b) || size != Size(len(p)) || !bytes.Equal(b[:size], framed(p))) || err != api.OK && (size != 0 || p != nil) {
			t.Fatalf("Take of %v: %v, %d, error %d", b, p, size, err)
		}
		l, end, err := All(b)
		var back []byte
		for _, p := range l {
			back = Put(back, p)
		}
		if !bytes.Equal(back, b[:end]) || (err == api.OK) != (end == len(b)) {
			t.Fatalf("All of %v: %v, %d, error %d", b, l, end, err)
		}
		p, err = Whole(b)
		if (err == api.OK) != (len(l) == 1 && end == len(b)) || err != api.OK && p != nil {
			t.Fatalf("Whole of %v: %v, error %d", b, p, err)
		}
		Size(int(r.Uint64()))
	}
}
