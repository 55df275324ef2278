package token

import (
	"math"
	"reflect"
	"strings"
	"testing"

	"eyot/alphabet"
	"eyot/api"
)

func TestSkip(t *testing.T) {
	for _, c := range []struct {
		s        string
		at, want int
	}{
		{"", 0, 0}, {"", 5, 5}, {"ab", 2, 2}, {"ab", 7, 7}, {"ab", math.MaxInt, math.MaxInt},
		{"  a", 0, 2}, {"  a", 1, 2}, {"  a", 2, 2}, {" \t\n\n x", 0, 5}, {"   ", 0, 3},
		{"#x", 0, 2}, {"#x\n", 0, 3}, {"#x\n #y\nz", 0, 7}, {"a#b\nc", 0, 0}, {"a#b\nc", 1, 4}, {"##\n#", 0, 4},
		{"\ra", 0, 0}, {"\va", 0, 0}, {"\x00", 0, 0}, {"\xc2\xa0", 0, 0},
	} {
		if got := Skip(c.s, c.at); got != c.want {
			t.Errorf("Skip(%q, %d) = %d", c.s, c.at, got)
		}
	}
}

func name(s string, at int) api.Token { return api.Token{Kind: api.TokName, Text: s, At: at} }
func text(s string, at int) api.Token { return api.Token{Kind: api.TokText, Text: s, At: at} }
func sign(s string, at int) api.Token { return api.Token{Kind: api.TokSign, Text: s, At: at} }

func TestNext(t *testing.T) {
	digits := api.Token{Kind: api.TokSet, Set: alphabet.Range('0', '9'), At: 1}
	for _, c := range []struct {
		s    string
		at   int
		want api.Token
		end  int
	}{
		{"", 0, api.Token{}, 0},
		{"", -5, api.Token{}, 0},
		{"ab", 99, api.Token{At: 2}, 2},
		{"ab", math.MaxInt, api.Token{At: 2}, 2},
		{"ab ", 2, api.Token{At: 3}, 3},
		{"ab #c", 2, api.Token{At: 5}, 5},
		{"ab", math.MinInt, name("ab", 0), 2},
		{" # c\n ab_9Z*", 0, name("ab_9Z", 6), 11},
		{"abcd", 2, name("cd", 2), 4},
		{"water", 0, name("water", 0), 5},
		{"azAZ09_+", 0, name("azAZ09_", 0), 7},
		{"zA", 0, name("zA", 0), 2}, {"Za", 0, name("Za", 0), 2}, {"Az", 0, name("Az", 0), 2},
		{"abcdefghijkl", 0, name("abcdefghijkl", 0), 12},
		{"a\"b\"", 1, text("b", 1), 4},
		{`"\"#"x`, 0, text("\"#", 0), 5},
		{" [0-9]+", 0, digits, 6},
		{"a::b", 1, sign("::", 1), 3},
		{":::", 0, sign("::", 0), 2},
		{":::", 2, sign(":", 2), 3},
		{": :", 0, sign(":", 0), 1},
	} {
		got, end, ok := Next(c.s, c.at)
		if got != c.want || end != c.end || !ok {
			t.Errorf("Next(%q, %d) = %v, %d, %v", c.s, c.at, got, end, ok)
		}
	}
	for i, one := range strings.Split(": ; = / & ! ~ * + ? . ( )", " ") {
		if got, end, ok := Next(one+one, 1); got != sign(one, 1) || end != 2 || !ok {
			t.Errorf("the sign %d: %v", i, got)
		}
	}
}

func TestNextOfNoToken(t *testing.T) {
	long := strings.Repeat("a", 41)
	for _, s := range []string{
		"$", "_a", "9", "-", "]", "\\", "{", "|", "'", "@", "<", "\r", "\x00", "\xff", "\xc3\xa9",
		"abcdefghijklm", "abcdefghijkl_ x", `""`, `"a`, `"` + long + `"`, "[]", "[b-a]", "[a",
	} {
		for _, ahead := range []string{"", " #\n\t"} {
			got, end, ok := Next(ahead+s, 0)
			if got != (api.Token{At: len(ahead)}) || end != len(ahead) || ok {
				t.Errorf("Next(%q) = %v, %d, %v", ahead+s, got, end, ok)
			}
		}
	}
}

func TestAll(t *testing.T) {
	l, f := All("m = a:b::c \"x\" ; # no more")
	want := []api.Token{
		name("m", 0), sign("=", 2), name("a", 4), sign(":", 5), name("b", 6), sign("::", 7), name("c", 9),
		text("x", 11), sign(";", 15), {At: 26},
	}
	if !reflect.DeepEqual(l, want) || f != (api.Fault{}) {
		t.Errorf("%v, %v", l, f)
	}
	if l, f := All(""); !reflect.DeepEqual(l, []api.Token{{}}) || f != (api.Fault{}) {
		t.Errorf("%v, %v", l, f)
	}
}

func TestAllFaults(t *testing.T) {
	for s, want := range map[string]api.Fault{
		"a $":                                {Err: api.ErrForm, At: 2},
		"a abcdefghijklm $":                  {Err: api.ErrForm, At: 2},
		"a [] $":                             {Err: api.ErrForm, At: 2},
		strings.Repeat(" ", 4001):            {Err: api.ErrLarge, At: 4000},
		"$" + strings.Repeat("a", 4000):      {Err: api.ErrLarge, At: 4000},
		strings.Repeat(" ", 3999) + "\xff":   {Err: api.ErrForm, At: 3999},
		strings.Repeat("a ", 1999) + "a\"":   {Err: api.ErrForm, At: 3999},
		strings.Repeat("a ", 3000) + " \x00": {Err: api.ErrLarge, At: 4000},
	} {
		if l, f := All(s); len(l) != 0 || f != want {
			t.Errorf("All of %d bytes: %v", len(s), f)
		}
	}
	if l, f := All(strings.Repeat("a ", 2000)); len(l) != 2001 || f != (api.Fault{}) || l[2000].At != 4000 {
		t.Errorf("4000 bytes may be: %d, %v", len(l), f)
	}
}

// TestOneByOne: tokens of two texts, parted by a blank, are those of both.
func TestOneByOne(t *testing.T) {
	texts := []string{"", "a", "::", ":", "a:", ":b", "[a]", "\"x\" y", "~a ~", "a::", "(", " ;", "water ", ". * +"}
	for _, a := range texts {
		for _, b := range texts {
			for _, blank := range []string{" ", "\n", "\t", " # \" [ $\n"} {
				first, _ := All(a)
				second, _ := All(b)
				both, f := All(a + blank + b)
				want := first[:len(first)-1]
				for _, x := range second {
					x.At += len(a) + len(blank)
					want = append(want, x)
				}
				if !reflect.DeepEqual(both, want) || f != (api.Fault{}) {
					t.Errorf("%q, %q: %v", a, b, both)
				}
			}
		}
	}
}
