package num

// Reader goes over bytes.
type Reader struct {
	rest   string // bytes that nobody can change any more
	failed bool
}

// Read is at the beginning of bytes.
func Read(b []byte) *Reader { return &Reader{rest: string(b)} }

// Fail asks whether something failed.
func (r *Reader) Fail() bool { return r == nil || r.failed }

// Left is how many bytes are left.
func (r *Reader) Left() int {
	if r.Fail() {
		return 0
	}
	return len(r.rest)
}

// Done asks whether all was read.
func (r *Reader) Done() bool { return !r.Fail() && r.Left() == 0 }

// Num is the next number.
func (r *Reader) Num(most int) int {
	if r.Fail() {
		return 0
	}
	n, size := first(r.rest)
	if size == 0 || n > most {
		r.failed = true
		return 0
	}
	r.rest = r.rest[size:]
	return n
}

// first is the number at the beginning of bytes, and how many bytes it has; 0 of them: there is none.
func first(s string) (int, int) {
	n := 0
	for i := range min(len(s), maxBytes) {
		low := int(s[i] % 128)
		n += low << (7 * i)
		if s[i] > 127 {
			continue
		}
		// A 0 behind others is needless: the number has fewer bytes.
		if low == 0 && i > 0 || n >= beyond {
			return 0, 0
		}
		return n, i + 1
	}
	return 0, 0
}

// Signed is the next signed number.
func (r *Reader) Signed() int {
	n := r.Num(2 * farthest)
	if n%2 == 1 {
		return -(n + 1) / 2
	}
	return n / 2
}

// Text is the next text.
func (r *Reader) Text(most int) string {
	size := r.Num(most)
	if r.Fail() {
		return ""
	}
	if size > len(r.rest) {
		r.failed = true
		return ""
	}
	s := r.rest[:size]
	r.rest = r.rest[size:]
	return s
}
