package utf

import (
	"math"
	"testing"
	"unicode/utf8"
)

func TestEverySignThereAndBack(t *testing.T) {
	for n := -10; n < 0x110010; n++ {
		want := n >= 0 && n < 0x110000 && (n < 0xd800 || n > 0xdfff)
		if Right(n) != want {
			t.Fatalf("Right(%x)", n)
		}
		s, ok := Encode(n)
		if ok != want || !ok && s != "" {
			t.Fatalf("Encode(%x) = %q, %v", n, s, ok)
		}
		if !ok {
			continue
		}
		if s != string(rune(n)) {
			t.Fatalf("Encode(%x) = %x", n, s)
		}
		for _, rest := range []string{"", "\x80", "a"} {
			if back, size, ok := Decode(s + rest); back != n || size != len(s) || !ok {
				t.Fatalf("Decode(%x) = %x, %d, %v", s+rest, back, size, ok)
			}
		}
		if back, size, ok := Decode(s[:len(s)-1]); len(s) > 1 && (back != 0 || size != 0 || ok) {
			t.Fatalf("Decode of %x without its last byte", s)
		}
	}
}

func TestEndsOfInt(t *testing.T) {
	for _, n := range []int{math.MinInt, math.MaxInt, 1 << 32, -1} {
		if s, ok := Encode(n); Right(n) || ok || s != "" {
			t.Errorf("%d is no sign", n)
		}
	}
}

// TestDecodeOfAnyBytes holds Decode against the library's, over all heads and many tails.
func TestDecodeOfAnyBytes(t *testing.T) {
	tails := []byte{0x00, 0x41, 0x7f, 0x80, 0x8f, 0x90, 0x9f, 0xa0, 0xbf, 0xc0, 0xe0, 0xff}
	for b := range 256 {
		for _, x := range tails {
			for _, y := range tails {
				for _, z := range tails {
					s := string([]byte{byte(b), x, y, z})
					holdAgainst(t, s)
				}
			}
		}
		holdAgainst(t, string([]byte{byte(b)}))
	}
	holdAgainst(t, "")
}

func holdAgainst(t *testing.T, s string) {
	t.Helper()
	n, size, ok := Decode(s)
	r, width := utf8.DecodeRuneInString(s)
	if r == utf8.RuneError && width <= 1 {
		r, width = 0, 0
	}
	if n != int(r) || size != width || ok != (width > 0) {
		t.Fatalf("Decode(%x) = %x, %d, %v", s, n, size, ok)
	}
}

func TestExamples(t *testing.T) {
	if s, _ := Encode(0xe9); s != "\xc3\xa9" {
		t.Errorf("e9 is %x", s)
	}
	if _, _, ok := Decode("\xc0\x80"); ok {
		t.Error("c0 80 is no sign")
	}
}
