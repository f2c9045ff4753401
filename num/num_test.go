package num

import (
	"bytes"
	"encoding/binary"
	"math"
	"math/rand"
	"strings"
	"testing"
)

// edges are numbers at which something turns, and beyond.
func edges() []int {
	l := []int{math.MinInt, math.MinInt + 1, math.MaxInt, math.MaxInt - 1, 300}
	for shift := range 63 {
		for off := -2; off <= 2; off++ {
			n := 1<<shift + off
			l = append(l, n, -n)
		}
	}
	return l
}

// bytesOf are a number's, by another's hand; nothing: it has none.
func bytesOf(n int) []byte {
	if n < 0 || n > 1<<62-1 {
		return nil
	}
	return binary.AppendUvarint(nil, uint64(n))
}

// signedBytesOf are a signed number's; nothing: it has none.
func signedBytesOf(n int) []byte {
	if n < -1<<60 || n > 1<<60 {
		return nil
	}
	return binary.AppendVarint(nil, int64(n))
}

func TestPutP2_1(t *testing.T) {
	for _, c := range []struct {
		n    int
		want []byte
	}{
		{0, []byte{0}},
		{1, []byte{1}},
		{127, []byte{127}},
		{128, []byte{128, 1}},
		{129, []byte{129, 1}},
		{255, []byte{255, 1}},
		{256, []byte{128, 2}},
		{300, []byte{172, 2}},
		{16383, []byte{255, 127}},
		{16384, []byte{128, 128, 1}},
		{1 << 56, []byte{128, 128, 128, 128, 128, 128, 128, 128, 1}},
		{1<<62 - 1, []byte{255, 255, 255, 255, 255, 255, 255, 255, 63}},
		{1 << 62, nil},
		{math.MaxInt, nil},
		{-1, nil},
		{-128, nil},
		{math.MinInt, nil},
	} {
		if got := Put(nil, c.n); !bytes.Equal(got, c.want) {
			t.Errorf("Put(nil, %d) is %v", c.n, got)
		}
		if got := Put([]byte{9, 8}, c.n); !bytes.Equal(got, append([]byte{9, 8}, c.want...)) {
			t.Errorf("Put(9 8, %d) is %v", c.n, got)
		}
	}
	for _, n := range edges() {
		if got := Put(nil, n); !bytes.Equal(got, bytesOf(n)) {
			t.Errorf("Put(nil, %d) is %v", n, got)
		}
	}
}

func TestSignedP2_1(t *testing.T) {
	for _, c := range []struct {
		n    int
		want []byte
	}{
		{0, []byte{0}},
		{-1, []byte{1}},
		{1, []byte{2}},
		{-2, []byte{3}},
		{63, []byte{126}},
		{-64, []byte{127}},
		{64, []byte{128, 1}},
		{-65, []byte{129, 1}},
		{1 << 60, []byte{128, 128, 128, 128, 128, 128, 128, 128, 32}},
		{-1 << 60, []byte{255, 255, 255, 255, 255, 255, 255, 255, 31}},
		{1<<60 + 1, nil},
		{-1<<60 - 1, nil},
		{1 << 61, nil},
		{1 << 62, nil},
		{-1 << 62, nil},
		{math.MaxInt, nil},
		{math.MinInt, nil},
		{math.MinInt + 1, nil},
	} {
		if got := Signed(nil, c.n); !bytes.Equal(got, c.want) {
			t.Errorf("Signed(nil, %d) is %v", c.n, got)
		}
		if got := Signed([]byte{9, 8}, c.n); !bytes.Equal(got, append([]byte{9, 8}, c.want...)) {
			t.Errorf("Signed(9 8, %d) is %v", c.n, got)
		}
	}
	for _, n := range edges() {
		if got := Signed(nil, n); !bytes.Equal(got, signedBytesOf(n)) {
			t.Errorf("Signed(nil, %d) is %v", n, got)
		}
	}
}

func TestTextP2_1(t *testing.T) {
	for _, s := range []string{"", "a", "hi", "\x00\xff", "é", strings.Repeat("x", 127), strings.Repeat("x", 128), strings.Repeat("\x80", 300), strings.Repeat("z", 1<<20)} {
		want := append(bytesOf(len(s)), s...)
		if got := Text(nil, s); !bytes.Equal(got, want) {
			t.Errorf("Text(nil, %d bytes) is wrong", len(s))
		}
		if got := Text([]byte{7}, s); !bytes.Equal(got, append([]byte{7}, want...)) {
			t.Errorf("Text(7, %d bytes) is wrong", len(s))
		}
	}
}

// puts are all calls that put something behind bytes, at what is laid and at what isn't.
func puts() map[string]func([]byte) []byte {
	return map[string]func([]byte) []byte{
		"Put":              func(b []byte) []byte { return Put(b, 300) },
		"Put nothing":      func(b []byte) []byte { return Put(b, -1) },
		"Put too great":    func(b []byte) []byte { return Put(b, 1<<62) },
		"Signed":           func(b []byte) []byte { return Signed(b, -300) },
		"Signed above":     func(b []byte) []byte { return Signed(b, 1<<60+1) },
		"Signed below":     func(b []byte) []byte { return Signed(b, -1<<60-1) },
		"Text":             func(b []byte) []byte { return Text(b, "hi") },
		"Text that's none": func(b []byte) []byte { return Text(b, "") },
	}
}

// TestPutSharesNothingP2_1: an answer is new memory, and what is handed in isn't written to, its room behind it neither.
func TestPutSharesNothingP2_1(t *testing.T) {
	for name, put := range puts() {
		room := bytes.Repeat([]byte{5}, 64)
		in := room[:3]
		got := put(in)
		if !bytes.Equal(room, bytes.Repeat([]byte{5}, 64)) {
			t.Errorf("%s wrote to what was handed in", name)
		}
		before := bytes.Clone(got)
		clear(room)
		if !bytes.Equal(got, before) {
			t.Errorf("%s shares memory with what was handed in", name)
		}
		if got := put(nil); !bytes.Equal(got, before[3:]) {
			t.Errorf("%s behind nothing is %v", name, got)
		}
	}
}

func TestRoundP2_2(t *testing.T) {
	for _, n := range edges() {
		r := Read(Put([]byte{}, n))
		want := n >= 0 && n < 1<<62
		if got := r.Num(math.MaxInt); r.Done() != want || want && got != n || !want && got != 0 {
			t.Errorf("Num behind Put(%d) is %d", n, got)
		}
		r = Read(Signed(nil, n))
		want = n >= -1<<60 && n <= 1<<60
		if got := r.Signed(); r.Done() != want || want && got != n || !want && got != 0 {
			t.Errorf("Signed behind Signed(%d) is %d", n, got)
		}
	}
	for _, size := range []int{0, 1, 127, 128, 16383, 16384, 1 << 20} {
		s := strings.Repeat("\xfe", size)
		r := Read(Text(nil, s))
		if got := r.Text(size); got != s || !r.Done() {
			t.Errorf("a text of %d bytes isn't read", size)
		}
	}
}

// TestRoundOfManyP2_2 lays numbers, signed ones and texts in a row, and reads them in that order.
func TestRoundOfManyP2_2(t *testing.T) {
	r := rand.New(rand.NewSource(2))
	for range 2000 {
		var b []byte
		var kinds, nums []int
		var says []string
		for range r.Intn(12) {
			kind, n, s := r.Intn(3), r.Int()>>(2+r.Intn(61)), ""
			switch kind {
			case 0:
				b = Put(b, n)
			case 1:
				n = n/2*(1-2*r.Intn(2)) + r.Intn(2)
				n = max(-1<<60, min(1<<60, n))
				b = Signed(b, n)
			case 2:
				s = strings.Repeat(string(rune(r.Intn(300))), r.Intn(200))
				b = Text(b, s)
			}
			kinds, nums, says = append(kinds, kind), append(nums, n), append(says, s)
		}
		rd := Read(b)
		left := len(b)
		for i, kind := range kinds {
			ok := false
			switch kind {
			case 0:
				ok = rd.Num(nums[i]) == nums[i]
				left -= len(bytesOf(nums[i]))
			case 1:
				ok = rd.Signed() == nums[i]
				left -= len(signedBytesOf(nums[i]))
			case 2:
				ok = rd.Text(len(says[i])) == says[i]
				left -= len(bytesOf(len(says[i]))) + len(says[i])
			}
			if !ok || rd.Fail() || rd.Left() != left || rd.Done() != (left == 0) {
				t.Fatalf("part %d of %v isn't read: %d left of %d", i, b, rd.Left(), left)
			}
		}
		if !rd.Done() {
			t.Fatalf("%d bytes are left", rd.Left())
		}
	}
}
