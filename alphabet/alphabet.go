// Package alphabet is layer 1: sets of bytes.
package alphabet

import (
	"math/bits"

	"eyot/api"
)

// Has tells whether b is in s.
func Has(s api.Set, b byte) bool {
	return s[b/64]>>(b%64)&1 == 1
}

// With answers s, and b.
func With(s api.Set, b byte) api.Set {
	s[b/64] |= 1 << (b % 64)
	return s
}

// Range answers the bytes from low up to high; none, if high is below low.
func Range(low, high byte) api.Set {
	var s api.Set
	// A byte would wrap round behind 255, and the loop never end.
	for b := int(low); b <= int(high); b++ {
		s = With(s, byte(b))
	}
	return s
}

// Or answers the bytes that are in a, or in b.
func Or(a, b api.Set) api.Set {
	for i := range a {
		a[i] |= b[i]
	}
	return a
}

// Not answers the bytes that aren't in a.
func Not(a api.Set) api.Set {
	for i := range a {
		a[i] = ^a[i]
	}
	return a
}

// Count tells how many bytes are in s.
func Count(s api.Set) int {
	n := 0
	for _, w := range s {
		n += bits.OnesCount64(w)
	}
	return n
}
