package num

import (
	"bytes"
	"encoding/binary"
	"math"
	"math/rand"
	"strings"
	"testing"
)

// numberOf is the number at the beginning of bytes, and how many it has, by another's hand; 0: there is none.
func numberOf(b []byte) (int, int) {
	u, size := binary.Uvarint(b)
	if size <= 0 || u > 1<<62-1 || !bytes.Equal(b[:size], binary.AppendUvarint(nil, u)) {
		return 0, 0
	}
	return int(u), size
}

// failed holds a reader against one that failed: all calls, in each order, answer nothing.
func failed(t *testing.T, name string, r *Reader) {
	t.Helper()
	for range 2 {
		if !r.Fail() || r.Done() || r.Left() != 0 {
			t.Errorf("%s: Fail %v, Done %v, Left %d", name, r.Fail(), r.Done(), r.Left())
		}
		if n, m, s := r.Num(math.MaxInt), r.Signed(), r.Text(math.MaxInt); n != 0 || m != 0 || s != "" {
			t.Errorf("%s: behind it are %d, %d, %q", name, n, m, s)
		}
	}
}

func TestNumP2_1(t *testing.T) {
	for _, c := range []struct {
		b          []byte
		most, want int
	}{
		{[]byte{0}, 0, 0},
		{[]byte{1}, 1, 1},
		{[]byte{127}, 127, 127},
		{[]byte{128, 1}, 128, 128},
		{[]byte{172, 2}, 300, 300},
		{[]byte{172, 2}, 301, 300},
		{[]byte{128, 128, 128, 128, 128, 128, 128, 128, 1}, 1 << 56, 1 << 56},
		{[]byte{255, 255, 255, 255, 255, 255, 255, 255, 63}, 1<<62 - 1, 1<<62 - 1},
		{[]byte{255, 255, 255, 255, 255, 255, 255, 255, 63}, math.MaxInt, 1<<62 - 1},
	} {
		r := Read(append(bytes.Clone(c.b), 7, 9))
		if got := r.Num(c.most); got != c.want || r.Fail() || r.Done() || r.Left() != 2 {
			t.Errorf("Num(%d) of %v is %d, %d left", c.most, c.b, got, r.Left())
		}
		if got := r.Num(7); got != 7 || r.Fail() || r.Done() || r.Left() != 1 {
			t.Errorf("behind %v is %d, %d left", c.b, got, r.Left())
		}
		if got := r.Num(9); got != 9 || r.Fail() || !r.Done() || r.Left() != 0 {
			t.Errorf("at the end behind %v is %d, %d left", c.b, got, r.Left())
		}
		r.Num(math.MaxInt)
		failed(t, "read on at the end", r)
	}
}

func TestNumFailsP2_1(t *testing.T) {
	for _, c := range []struct {
		name string
		b    []byte
		most int
	}{
		{"nothing", nil, 9},
		{"cut behind one", []byte{128}, math.MaxInt},
		{"cut behind two", []byte{172, 130}, math.MaxInt},
		{"cut behind eight", bytes.Repeat([]byte{255}, 8), math.MaxInt},
		{"cut behind nine", bytes.Repeat([]byte{255}, 9), math.MaxInt},
		{"ten bytes", append(bytes.Repeat([]byte{128}, 9), 1), math.MaxInt},
		{"ten bytes, not the fewest", append(bytes.Repeat([]byte{128}, 9), 0), math.MaxInt},
		{"twenty bytes", append(bytes.Repeat([]byte{129}, 19), 1), math.MaxInt},
		{"many bytes", bytes.Repeat([]byte{255}, 1000), math.MaxInt},
		{"0 in two", []byte{128, 0}, math.MaxInt},
		{"127 in two", []byte{255, 0}, math.MaxInt},
		{"1 in three", []byte{129, 128, 0}, math.MaxInt},
		{"nine, not the fewest", append(bytes.Repeat([]byte{255}, 8), 0), math.MaxInt},
		{"2^62", append(bytes.Repeat([]byte{128}, 8), 64), math.MaxInt},
		{"2^63 - 1", append(bytes.Repeat([]byte{255}, 8), 127), math.MaxInt},
		{"1 above 0", []byte{1}, 0},
		{"128 above 127", []byte{128, 1}, 127},
		{"300 above 299", []byte{172, 2}, 299},
		{"2^62 - 1 above one less", append(bytes.Repeat([]byte{255}, 8), 63), 1<<62 - 2},
		{"0 above -1", []byte{0}, -1},
		{"0 above the least", []byte{0}, math.MinInt},
	} {
		r := Read(append(bytes.Clone(c.b), 5)[:len(c.b)])
		if got := r.Num(c.most); got != 0 {
			t.Errorf("%s: %d", c.name, got)
		}
		failed(t, c.name, r)
	}
	// What failed isn't tried again, with bytes left or another bound.
	r := Read([]byte{9, 1, 2, 3})
	r.Num(8)
	failed(t, "bytes behind a fault", r)
}

func TestSignedReadP2_1(t *testing.T) {
	for _, c := range []struct {
		b    []byte
		want int
	}{
		{[]byte{0}, 0}, {[]byte{1}, -1}, {[]byte{2}, 1}, {[]byte{3}, -2}, {[]byte{4}, 2}, {[]byte{128, 1}, 64}, {[]byte{255, 1}, -128},
		{[]byte{128, 128, 128, 128, 128, 128, 128, 128, 32}, 1 << 60},
		{[]byte{255, 255, 255, 255, 255, 255, 255, 255, 31}, -1 << 60},
	} {
		r := Read(append(bytes.Clone(c.b), 1))
		if got := r.Signed(); got != c.want || r.Fail() || r.Left() != 1 {
			t.Errorf("Signed of %v is %d", c.b, got)
		}
	}
	for name, b := range map[string][]byte{
		"nothing":              nil,
		"cut":                  {128},
		"not the fewest":       {128, 0},
		"-2^60 - 1":            {129, 128, 128, 128, 128, 128, 128, 128, 32},
		"2^60 + 1":             {130, 128, 128, 128, 128, 128, 128, 128, 32},
		"the greatest number":  {255, 255, 255, 255, 255, 255, 255, 255, 63},
		"more than nine bytes": {128, 128, 128, 128, 128, 128, 128, 128, 128, 1},
	} {
		r := Read(append(bytes.Clone(b), 2)[:len(b)])
		if got := r.Signed(); got != 0 {
			t.Errorf("%s: %d", name, got)
		}
		failed(t, name, r)
	}
}

func TestTextReadP2_1(t *testing.T) {
	for _, s := range []string{"", "a", "hello", "\x00\xff\x80", strings.Repeat("x", 127), strings.Repeat("x", 128)} {
		laid := append(bytesOf(len(s)), s...)
		for _, most := range []int{len(s), len(s) + 1, math.MaxInt} {
			r := Read(append(bytes.Clone(laid), 3))
			if got := r.Text(most); got != s || r.Fail() || r.Left() != 1 || r.Num(3) != 3 || !r.Done() {
				t.Errorf("Text(%d) of %q is %q", most, s, got)
			}
		}
		for _, most := range []int{len(s) - 1, -1, math.MinInt} {
			r := Read(laid)
			if got := r.Text(most); got != "" {
				t.Errorf("Text(%d) of %q is %q", most, s, got)
			}
			failed(t, "a text above most", r)
		}
		for cut := range laid {
			r := Read(laid[:cut])
			if got := r.Text(math.MaxInt); got != "" {
				t.Errorf("Text of %v is %q", laid[:cut], got)
			}
			failed(t, "a text that is cut", r)
		}
	}
	for name, b := range map[string][]byte{
		"a length that isn't the fewest": {129, 0, 'a'},
		"a length of 2^62 - 1":           {255, 255, 255, 255, 255, 255, 255, 255, 63, 'a'},
		"a length of 2^63 - 1":           {255, 255, 255, 255, 255, 255, 255, 255, 127, 'a'},
		"a length of ten bytes":          {129, 128, 128, 128, 128, 128, 128, 128, 128, 1, 'a'},
	} {
		r := Read(b)
		if got := r.Text(math.MaxInt); got != "" {
			t.Errorf("%s: %q", name, got)
		}
		failed(t, name, r)
	}
}

// TestFaultIsKeptP2_1: whatever failed first, and whatever was read ahead of it, all behind it answers nothing.
func TestFaultIsKeptP2_1(t *testing.T) {
	faults := map[string]func(*Reader){
		"Num":    func(r *Reader) { r.Num(0) },
		"Signed": func(r *Reader) { r.Signed() },
		"Text":   func(r *Reader) { r.Text(0) },
	}
	for name, fault := range faults {
		r := Read([]byte{5, 1, 'a', 128, 0, 1, 2, 3})
		if n, s := r.Num(5), r.Text(1); n != 5 || s != "a" || r.Left() != 5 || r.Fail() || r.Done() {
			t.Errorf("ahead of the fault of %s: %d, %q, %d left", name, n, s, r.Left())
		}
		fault(r)
		failed(t, name, r)
	}
}

func TestNoReaderP2_1(t *testing.T) {
	var none *Reader
	failed(t, "nil", none)
	for _, b := range [][]byte{nil, {}} {
		r := Read(b)
		if r == nil || r.Fail() || !r.Done() || r.Left() != 0 {
			t.Errorf("a reader of nothing: Fail %v, Done %v, Left %d", r.Fail(), r.Done(), r.Left())
		}
		r.Text(0)
		failed(t, "a text of nothing", r)
	}
}

// TestReaderSharesNothingP2_1: a reader goes over the bytes as they were when it was made, and writes to none.
func TestReaderSharesNothingP2_1(t *testing.T) {
	b := []byte{2, 'h', 'i', 172, 2, 3}
	before := bytes.Clone(b)
	r, other := Read(b), Read(b)
	if r.Text(2) != "hi" || !bytes.Equal(b, before) {
		t.Error("reading changes bytes")
	}
	clear(b)
	if n, m := r.Num(300), r.Signed(); n != 300 || m != -2 || !r.Done() {
		t.Errorf("behind a change of the bytes: %d, %d", n, m)
	}
	if other.Left() != 6 || other.Text(2) != "hi" {
		t.Error("one reader moves another one")
	}
}

func TestNumOfAllShortBytesP2_1(t *testing.T) {
	ask := func(b []byte) {
		n, size := numberOf(b)
		r := Read(b)
		got := r.Num(math.MaxInt)
		if size == 0 && (got != 0 || !r.Fail()) || size > 0 && (got != n || r.Fail() || r.Left() != len(b)-size) {
			t.Fatalf("Num of %v is %d", b, got)
		}
		if size > 0 && (Read(b).Num(n) != n || !failsAt(b, n-1)) {
			t.Fatalf("Num of %v doesn't keep to its bound", b)
		}
	}
	for a := range 256 {
		ask([]byte{byte(a)})
		for b := range 256 {
			ask([]byte{byte(a), byte(b)})
			for _, c := range []byte{0, 1, 127, 128, 255} {
				ask([]byte{byte(a), byte(b), c})
			}
		}
	}
	r := rand.New(rand.NewSource(3))
	for range 100000 {
		b := make([]byte, r.Intn(13))
		for i := range b {
			b[i] = []byte{0, 1, 63, 64, 127, 128, 255, byte(r.Intn(256)), 128 + byte(r.Intn(128))}[r.Intn(9)]
			if i < 8 {
				b[i] |= 128 * byte(r.Intn(2))
			}
		}
		ask(b)
		if len(b) > 8 {
			for i := range 8 {
				b[i] |= 128
			}
			ask(b)
		}
	}
}

// failsAt asks whether bytes have no number of at most that much.
func failsAt(b []byte, most int) bool {
	r := Read(b)
	return r.Num(most) == 0 && r.Fail()
}

// TestNoPanicP5 asks all calls at arguments of all sorts: a panic fails it, and so does what doesn't end.
func TestNoPanicP5(t *testing.T) {
	r := rand.New(rand.NewSource(4))
	bounds := edges()
	for range 50000 {
		b := make([]byte, r.Intn(20))
		for i := range b {
			b[i] = byte(r.Intn(256)) >> r.Intn(8)
		}
		rd := Read(b)
		if r.Intn(50) == 0 {
			rd = nil
		}
		for range 5 {
			most := bounds[r.Intn(len(bounds))]
			left, fault := rd.Left(), rd.Fail()
			switch r.Intn(3) {
			case 0:
				if n := rd.Num(most); n < 0 || n > most && !rd.Fail() {
					t.Fatalf("Num(%d) is %d", most, n)
				}
			case 1:
				if n := rd.Signed(); n < -1<<60 || n > 1<<60 {
					t.Fatalf("Signed is %d", n)
				}
			case 2:
				if s := rd.Text(most); len(s) > 0 && len(s) > most {
					t.Fatalf("Text(%d) has %d bytes", most, len(s))
				}
			}
			if fault && !rd.Fail() || !rd.Fail() && rd.Left() >= left || rd.Fail() && (rd.Left() != 0 || rd.Done()) {
				t.Fatalf("of %v: Left %d behind %d, Fail %v behind %v", b, rd.Left(), left, rd.Fail(), fault)
			}
		}
	}
	for _, n := range bounds {
		Put(nil, n)
		Signed([]byte{}, n)
	}
}
