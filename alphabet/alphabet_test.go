package alphabet

import (
	"testing"

	"eyot/api"
)

// members asks every byte, so that no word or bit is left out.
func members(s api.Set) [256]bool {
	var l [256]bool
	for b := range l {
		l[b] = Has(s, byte(b))
	}
	return l
}

func samples() []api.Set {
	return []api.Set{
		{}, {1}, {0, 1}, {0, 0, 1}, {0, 0, 0, 1}, {1 << 63}, {0, 0, 0, 1 << 63},
		{0x0123456789abcdef, 0xfedcba9876543210, 0x5555, 1 << 40},
		{^uint64(0), ^uint64(0), ^uint64(0), ^uint64(0)},
	}
}

func TestHasReadsTheBitOfTheWord(t *testing.T) {
	for _, s := range samples() {
		for b, in := range members(s) {
			if want := s[b/64]&(1<<(b%64)) != 0; in != want {
				t.Fatalf("Has(%v, %d) = %v", s, b, in)
			}
		}
	}
}

func TestWithAddsJustThatByte(t *testing.T) {
	for _, s := range samples() {
		for b := range 256 {
			want := members(s)
			want[b] = true
			if got := members(With(s, byte(b))); got != want {
				t.Fatalf("With(%v, %d): %v", s, b, got)
			}
		}
	}
	if With(api.Set{}, 200) != (api.Set{0, 0, 0, 256}) {
		t.Error("the byte 200 is the bit 8 of the last word")
	}
}

func TestRangeHasJustItsBytes(t *testing.T) {
	for low := range 256 {
		for high := range 256 {
			s, want := Range(byte(low), byte(high)), max(0, high-low+1)
			if Count(s) != want {
				t.Fatalf("Range(%d, %d) has %d", low, high, Count(s))
			}
			if want > 0 && (!Has(s, byte(low)) || !Has(s, byte(high)) || !Has(s, byte((low+high)/2))) {
				t.Fatalf("Range(%d, %d) misses some", low, high)
			}
			if low > 0 && Has(s, byte(low-1)) || high < 255 && Has(s, byte(high+1)) {
				t.Fatalf("Range(%d, %d) has more", low, high)
			}
		}
	}
}

func TestOrNotCount(t *testing.T) {
	for _, a := range samples() {
		inA, inNot := members(a), members(Not(a))
		n := 0
		for b := range 256 {
			if inA[b] == inNot[b] {
				t.Fatalf("Not(%v) at %d", a, b)
			}
			if inA[b] {
				n++
			}
		}
		if Count(a) != n {
			t.Fatalf("Count(%v) = %d, not %d", a, Count(a), n)
		}
		for _, b := range samples() {
			inB, both := members(b), members(Or(a, b))
			for i := range 256 {
				if both[i] != (inA[i] || inB[i]) {
					t.Fatalf("Or(%v, %v) at %d", a, b, i)
				}
			}
		}
	}
}

func TestExample(t *testing.T) {
	if n := Count(With(Range('0', '9'), 'x')); n != 11 {
		t.Errorf("the digits and x: %d", n)
	}
	if Range('9', '0') != (api.Set{}) {
		t.Error("a row that falls has none")
	}
}
