package spot

import (
	"math"
	"testing"

	"eyot/api"
)

var texts = []string{"", "a", "\n", "\n\n", "ab\ncd", "ab\ncd\n", "\nab\n\n\ncd", "a\r\nb\tc\n", "\xc3\xa9\n\xff"}

func TestOfGoesByteByByte(t *testing.T) {
	for _, s := range texts {
		want := api.Spot{Line: 1, Column: 1}
		for at := 0; at <= len(s); at++ {
			if got := Of(s, at); got != want {
				t.Errorf("Of(%q, %d) = %v", s, at, got)
			}
			if back, ok := At(s, want); back != at || !ok {
				t.Errorf("At(%q, %v) = %d, %v", s, want, back, ok)
			}
			want.Column++
			if at < len(s) && s[at] == '\n' {
				want = api.Spot{Line: want.Line + 1, Column: 1}
			}
		}
		if Lines(s) != want.Line {
			t.Errorf("Lines(%q) = %d", s, Lines(s))
		}
	}
}

func TestOfBeyond(t *testing.T) {
	for _, s := range texts {
		for _, at := range []int{-1, -100, math.MinInt} {
			if Of(s, at) != (api.Spot{Line: 1, Column: 1}) {
				t.Errorf("Of(%q, %d)", s, at)
			}
		}
		for _, at := range []int{len(s) + 1, math.MaxInt} {
			if Of(s, at) != Of(s, len(s)) {
				t.Errorf("Of(%q, %d)", s, at)
			}
		}
	}
}

// TestEachPlaceOnce asks all near places: just as many are there as bytes, and the end.
func TestEachPlaceOnce(t *testing.T) {
	for _, s := range texts {
		count := 0
		for line := -1; line < len(s)+4; line++ {
			for column := -1; column < len(s)+4; column++ {
				x := api.Spot{Line: line, Column: column}
				at, ok := At(s, x)
				if ok {
					count++
				}
				if ok && Of(s, at) != x || !ok && at != 0 {
					t.Errorf("At(%q, %v) = %d, %v", s, x, at, ok)
				}
			}
		}
		if count != len(s)+1 {
			t.Errorf("%q has %d places", s, count)
		}
	}
}

func TestAtEndsOfInt(t *testing.T) {
	ends := []int{math.MinInt, math.MinInt + 1, -1, 0, 1 << 40, math.MaxInt - 1, math.MaxInt}
	for _, s := range texts {
		for _, a := range ends {
			for _, x := range []api.Spot{{Line: a, Column: 1}, {Line: 1, Column: a}, {Line: a, Column: a}, {Line: Lines(s), Column: a}} {
				if at, ok := At(s, x); at != 0 || ok {
					t.Errorf("At(%q, %v) = %d, %v", s, x, at, ok)
				}
			}
		}
	}
}

func TestExample(t *testing.T) {
	if Of("ab\ncd", 3) != (api.Spot{Line: 2, Column: 1}) {
		t.Error("the byte behind the line feed")
	}
}
