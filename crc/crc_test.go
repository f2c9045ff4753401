package crc

import (
	"bytes"
	"hash/crc32"
	"math/rand"
	"strings"
	"testing"
)

// sumOf is the chapter's sentence, bit by bit.
func sumOf(b []byte) uint32 {
	register := uint32(1<<32 - 1)
	for _, x := range b {
		register ^= uint32(x)
		for range 8 {
			one := register&1 == 1
			register >>= 1
			if one {
				register ^= 3988292384
			}
		}
	}
	return register ^ (1<<32 - 1)
}

// some are that many bytes of no pattern.
func some(r *rand.Rand, size int) []byte {
	b := make([]byte, size)
	r.Read(b)
	return b
}

func TestOfP3_1(t *testing.T) {
	for s, want := range map[string]uint32{
		"":                          0,
		"123456789":                 3421780262,
		"a":                         3904355907,
		"abc":                       891568578,
		"\x00":                      3523407757,
		"\xff":                      4278190080,
		"\x00\x00\x00\x00":          558161692,
		"\xff\xff\xff\xff":          4294967295,
		strings.Repeat("\x00", 32):  420107693,
		strings.Repeat("\xff", 32):  4285311755,
		strings.Repeat("hedge", 40): crc32.ChecksumIEEE([]byte(strings.Repeat("hedge", 40))),
	} {
		if got := Of([]byte(s)); got != want {
			t.Errorf("Of(%q) is %d, not %d", s, got, want)
		}
		if got := New().Add([]byte(s)).Value(); got != want {
			t.Errorf("New, Add(%q), Value is %d, not %d", s, got, want)
		}
	}
	if Of(nil) != 0 || New().Value() != 0 || New().Add(nil).Value() != 0 {
		t.Error("the sum of nothing isn't 0")
	}
}

// TestOfEachByteP3_1 asks each of the table's numbers, at each place of some bytes.
func TestOfEachByteP3_1(t *testing.T) {
	for x := range 256 {
		for place := range 6 {
			b := []byte("hedger")
			b[place] = byte(x)
			if got := Of(b); got != sumOf(b) {
				t.Fatalf("Of(%v) is %d, not %d", b, got, sumOf(b))
			}
		}
	}
	for a := range 256 {
		for b := range 256 {
			l := []byte{byte(a), byte(b)}
			if got := Of(l); got != sumOf(l) {
				t.Fatalf("Of(%v) is %d, not %d", l, got, sumOf(l))
			}
		}
	}
}

func TestOfManyBytesP3_1(t *testing.T) {
	r := rand.New(rand.NewSource(1))
	sizes := []int{255, 256, 257, 65535, 65536, 1 << 20, 1<<20 + 1}
	for size := range 200 {
		sizes = append(sizes, size)
	}
	for _, size := range sizes {
		b := some(r, size)
		if got := Of(b); got != sumOf(b) || got != crc32.ChecksumIEEE(b) {
			t.Fatalf("Of %d bytes is %d, not %d", size, got, sumOf(b))
		}
	}
}

// TestAddInPartsP3_1 adds bytes in parts, empty ones among them, and asks for the sum in the middle, more than once.
func TestAddInPartsP3_1(t *testing.T) {
	r := rand.New(rand.NewSource(2))
	for range 2000 {
		b := some(r, r.Intn(60))
		s := New()
		for at := 0; at < len(b); {
			part := b[at : at+r.Intn(len(b)-at+1)]
			at += len(part)
			if s.Add(part) != s {
				t.Fatal("Add isn't itself")
			}
			for range r.Intn(3) {
				if got := s.Value(); got != sumOf(b[:at]) {
					t.Fatalf("the sum of %v is %d", b[:at], got)
				}
			}
		}
		if got := s.Add(nil).Add([]byte{}).Value(); got != sumOf(b) {
			t.Fatalf("the sum of %v is %d", b, got)
		}
	}
}

func TestAddByEachCutP3_1(t *testing.T) {
	b := []byte("123456789")
	for i := range len(b) + 1 {
		for j := i; j <= len(b); j++ {
			if got := New().Add(b[:i]).Add(b[i:j]).Add(b[j:]).Value(); got != 3421780262 {
				t.Errorf("cut at %d and %d: %d", i, j, got)
			}
		}
	}
	s := New()
	for _, x := range b {
		s.Add([]byte{x})
	}
	if s.Value() != 3421780262 {
		t.Errorf("one by one: %d", s.Value())
	}
}

// TestSumsStandAloneP3_1: no sum moves another one, a copied one neither.
func TestSumsStandAloneP3_1(t *testing.T) {
	a, b := New(), New()
	if a == b {
		t.Fatal("two sums are one")
	}
	a.Add([]byte("1234"))
	b.Add([]byte("hedge"))
	twin := *a
	twin.Add([]byte("x"))
	a.Add([]byte("56789"))
	if a.Value() != 3421780262 || b.Value() != sumOf([]byte("hedge")) || twin.Value() != sumOf([]byte("1234x")) {
		t.Errorf("%d, %d, %d", a.Value(), b.Value(), twin.Value())
	}
	if New().Value() != 0 || Of([]byte("1234")) != sumOf([]byte("1234")) {
		t.Error("a new sum isn't of nothing")
	}
}

// TestSumKeepsNoBytesP3_1: what was added may change behind it, and isn't changed by it.
func TestSumKeepsNoBytesP3_1(t *testing.T) {
	room := []byte("123456789")
	s := New().Add(room[:4])
	if string(room) != "123456789" {
		t.Fatal("Add changes bytes")
	}
	clear(room[:4])
	if got := s.Add(room[4:]).Value(); got != 3421780262 {
		t.Errorf("behind a change: %d", got)
	}
	if Of(room[4:]); string(room[4:]) != "56789" {
		t.Error("Of changes bytes")
	}
}

func TestNoSumP3_1(t *testing.T) {
	var none *Sum
	for _, b := range [][]byte{nil, {}, {0}, []byte("123456789")} {
		if got := none.Add(b); got != nil {
			t.Errorf("nil.Add(%v) is %v", b, got)
		}
		if got := none.Add(b).Add(b).Value(); got != 0 {
			t.Errorf("the sum of nil behind %v is %d", b, got)
		}
	}
	if none.Value() != 0 {
		t.Errorf("the sum of nil is %d", none.Value())
	}
}

// TestZeroSumP3_1: a Sum that New didn't make is of nothing, too.
func TestZeroSumP3_1(t *testing.T) {
	var s Sum
	if s.Value() != 0 || s.Add(nil).Value() != 0 || s.Add([]byte("123456789")).Value() != 3421780262 {
		t.Errorf("the zero Sum comes to %d", s.Value())
	}
}

func TestBytesP3_1(t *testing.T) {
	for sum, want := range map[uint32][]byte{
		0:          {0, 0, 0, 0},
		1<<32 - 1:  {255, 255, 255, 255},
		0x01020304: {4, 3, 2, 1},
		0xa1b2c3d4: {0xd4, 0xc3, 0xb2, 0xa1},
		1:          {1, 0, 0, 0},
		1 << 8:     {0, 1, 0, 0},
		1 << 16:    {0, 0, 1, 0},
		1 << 24:    {0, 0, 0, 1},
		1 << 31:    {0, 0, 0, 128},
		3421780262: {38, 57, 244, 203},
	} {
		if got := Bytes(sum); !bytes.Equal(got, want) {
			t.Errorf("Bytes(%d) is %v", sum, got)
		}
	}
	for bit := range 32 {
		want := make([]byte, 4)
		want[bit/8] = 1 << (bit % 8)
		if got := Bytes(1 << bit); !bytes.Equal(got, want) {
			t.Errorf("Bytes(2^%d) is %v", bit, got)
		}
	}
	first := Bytes(0x01020304)
	clear(first)
	if got := Bytes(0x01020304); !bytes.Equal(got, []byte{4, 3, 2, 1}) {
		t.Errorf("Bytes hands out memory that it keeps: %v", got)
	}
}

// turned is b with a pattern's bits turned from a bit on: the lowest bit of each byte first; what would be behind b isn't.
func turned(b []byte, from int, pattern uint32) []byte {
	out := bytes.Clone(b)
	for i := range 32 {
		if at := from + i; pattern>>i&1 == 1 && at < 8*len(b) {
			out[at/8] ^= 1 << (at % 8)
		}
	}
	return out
}

func TestBitsTurnedP3_2(t *testing.T) {
	r := rand.New(rand.NewSource(3))
	for _, size := range []int{1, 2, 3, 4, 5, 8, 9, 31, 100} {
		b := some(r, size)
		sum := Of(b)
		for from := range 8 * size {
			patterns := []uint32{1, 3, 5, 1<<31 + 1, 1<<32 - 1, 1<<31 - 1, 0xedb88320 | 1, 0x04c11db7, 1<<30 + 1, 255, 257, 65537}
			for range 20 {
				patterns = append(patterns, r.Uint32()|1)
			}
			for _, p := range patterns {
				if other := turned(b, from, p); Of(other) == sum {
					t.Fatalf("%v and %v have the same sum", b, other)
				}
			}
		}
	}
}

// TestAllBitsOfWindowsP3_2: that all patterns of 32 bits at a place give sums of their own hangs on two things: a sum's bits are turned alike, whatever else is turned, and no bits of a window turn it together by nothing.
func TestAllBitsOfWindowsP3_2(t *testing.T) {
	r := rand.New(rand.NewSource(4))
	for _, size := range []int{4, 5, 12, 40, 300} {
		b := some(r, size)
		for from := range 8*size - 31 {
			var basis [32]uint32
			for i := range 32 {
				if !widens(&basis, Of(b)^Of(turned(b, from, 1<<i))) {
					t.Fatalf("of %d bytes some of the bits from %d on turn the sum by nothing", size, from)
				}
			}
		}
		for range 200 {
			from, p, q := r.Intn(8*size), r.Uint32(), r.Uint32()
			if Of(b)^Of(turned(b, from, p))^Of(turned(b, from, q)) != Of(turned(b, from, p^q)) {
				t.Fatalf("of %d bytes, from %d on, %x and %x don't turn the sum as they do together", size, from, p, q)
			}
		}
	}
}

// widens puts a number to those of a basis; false: some of them come to it, turned by each other.
func widens(basis *[32]uint32, n uint32) bool {
	for i := range 32 {
		if n>>i&1 == 0 {
			continue
		}
		if basis[i] == 0 {
			basis[i] = n
			return true
		}
		n ^= basis[i]
	}
	return false
}

// TestAllShortBytesP3_2: bytes of one length, at most four, are unlike in at most 32 bits side by side, so no two have one sum.
func TestAllShortBytesP3_2(t *testing.T) {
	seen := make(map[uint32]bool)
	for x := range 256 * 256 {
		seen[Of([]byte{byte(x), byte(x >> 8)})] = true
	}
	if len(seen) != 256*256 {
		t.Errorf("all two bytes have only %d sums", len(seen))
	}
	clear(seen)
	for x := range 1 << 20 {
		seen[Of([]byte{byte(x), byte(x >> 8), 'h', byte(x >> 16)})] = true
	}
	if len(seen) != 1<<20 {
		t.Errorf("2^20 times four bytes have only %d sums", len(seen))
	}
}

// TestNoPanicP5 asks all calls at arguments of all sorts: a panic fails it, and so does what doesn't end.
func TestNoPanicP5(t *testing.T) {
	r := rand.New(rand.NewSource(5))
	for range 5000 {
		var s *Sum
		switch r.Intn(3) {
		case 0:
			s = New()
		case 1:
			s = new(Sum)
		}
		var all []byte
		for range r.Intn(6) {
			b := some(r, r.Intn(20)*r.Intn(2))
			if r.Intn(4) == 0 {
				b = nil
			}
			all = append(all, b...)
			if s.Add(b) != s {
				t.Fatal("Add isn't itself")
			}
		}
		want := sumOf(all)
		if s == nil {
			want = 0
		}
		if s.Value() != want || Of(all) != sumOf(all) || len(Bytes(r.Uint32())) != 4 {
			t.Fatalf("the sum of %v is %d", all, s.Value())
		}
	}
	Of(make([]byte, 1<<24))
}
