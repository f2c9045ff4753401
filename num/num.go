// Package num is layer 2: numbers and texts as bytes.
package num

import (
	"slices"
)

const (
	beyond   = 1 << 62 // the least number that is too great to have bytes
	farthest = 1 << 60 // how far from 0 a signed number may be
	maxBytes = 9       // of a number
)

// Put puts a number.
func Put(b []byte, n int) []byte {
	return slices.Concat(b, laid(n))
}

// laid is a number's bytes; none, if it has none.
func laid(n int) []byte {
	if n < 0 || n >= beyond {
		return nil
	}
	var l []byte
	for ; n > 127; n /= 128 {
		l = append(l, byte(n%128+128))
	}
	return append(l, byte(n))
}

// Signed puts a signed number.
func Signed(b []byte, n int) []byte {
	// What is beyond the range isn't doubled: it could wrap round to a number that has bytes.
	switch {
	case n < -farthest || n > farthest:
		return slices.Clone(b)
	case n < 0:
		return Put(b, -2*n-1)
	}
	return Put(b, 2*n)
}

// Text puts a text.
func Text(b []byte, s string) []byte {
	return slices.Concat(b, laid(len(s)), []byte(s))
}
