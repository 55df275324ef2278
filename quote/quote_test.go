package quote

import (
	"math"
	"math/rand"
	"strings"
	"testing"

	"eyot/alphabet"
	"eyot/api"
)

func set(s string) api.Set {
	var x api.Set
	for i := 0; i < len(s); i++ {
		x = alphabet.With(x, s[i])
	}
	return x
}

func TestTextWritesEachByteItsWay(t *testing.T) {
	for in, want := range map[string]string{
		"":                      `""`,
		" az~":                  `" az~"`,
		"a\nb\tc\\d\"e":         `"a\nb\tc\\d\"e"`,
		"[]^-'":                 `"[]^-'"`,
		"\x00\x1f\x7f\xff":      `"\x00\x1f\x7f\xff"`,
		"\xc3\xa9":              `"\xc3\xa9"`,
		"\r":                    `"\x0d"`,
		strings.Repeat("q", 99): `"` + strings.Repeat("q", 99) + `"`,
	} {
		if got := Text(in); got != want {
			t.Errorf("Text(%q) = %s", in, got)
		}
	}
}

func TestReadText(t *testing.T) {
	forty := strings.Repeat("a", 40)
	good := map[string]string{
		`"a"`:                        "a",
		`"a b[]^-"`:                  "a b[]^-",
		`"\n\t\\\""`:                 "\n\t\\\"",
		`"\x00\xff\x4a"`:             "\x00\xffJ",
		`"\u{e9}\u{10ffff}\u{0}"`:    "\xc3\xa9\xf4\x8f\xbf\xbf\x00",
		`"\u{000041}"`:               "A",
		`"` + forty + `"`:            forty,
		`"` + forty[:38] + `\u{e9}"`: forty[:38] + "\xc3\xa9",
	}
	for in, want := range good {
		for _, around := range [][2]string{{"", ""}, {`x"`, `"y`}, {"\\", "\\"}, {"[", "a"}} {
			at := len(around[0])
			got, next, ok := ReadText(around[0]+in+around[1], at)
			if got != want || next != at+len(in) || !ok {
				t.Errorf("ReadText(%s) = %q, %d, %v", in, got, next, ok)
			}
		}
	}
	for _, in := range []string{
		``, `a`, `""`, `"`, `"a`, `"a\`, `"a\"`, `"\a"`, `"\["`, `"\-"`, `"x\a"`, `"\u(41}"`, `"\q{41}"`, `"\X00"`, `"\x0"`, `"\x0g"`, `"\xFF"`, `"\N"`,
		`"\u{}"`, `"\u{1234567}"`, `"\u{0000041}"`, `"\u{d800}"`, `"\u{dfff}"`, `"\u{110000}"`, `"\u{E9}"`, `"\u41"`, `"\u{41"`, `"\u{41 }"`, `"\u`, `"\u{`, `"\x`,
		"\"\n\"", "\"\t\"", "\"\x7f\"", "\"\x80\"", "\"\xc3\xa9\"", "\"\x00\"",
		`"` + forty + `a"`, `"` + forty[:39] + `\u{e9}"`, `[a]`, `'a'`,
	} {
		if got, next, ok := ReadText(in, 0); got != "" || next != 0 || ok {
			t.Errorf("ReadText(%s) = %q, %d, %v", in, got, next, ok)
		}
	}
}

func TestPlacesThatAreNone(t *testing.T) {
	for _, at := range []int{math.MinInt, -1, 1, 3, 4, 100, math.MaxInt} {
		if s, next, ok := ReadText(`"a"`, at); s != "" || next != 0 || ok {
			t.Errorf("ReadText at %d", at)
		}
		if x, next, ok := ReadClass(`[a]`, at); x != (api.Set{}) || next != 0 || ok {
			t.Errorf("ReadClass at %d", at)
		}
	}
}

func TestClassWritesRowsAsLongAsMayBe(t *testing.T) {
	for in, want := range map[api.Set]string{
		{}:                                   `[]`,
		set("a"):                             `[a]`,
		set("ab"):                            `[ab]`,
		set("abc"):                           `[a-c]`,
		set("abcx"):                          `[a-cx]`,
		set("acbzyx09"):                      `[09a-cx-z]`,
		set("[]^-"):                          `[\-\[\]\^]`,
		set("\\]^_"):                         `[\\-_]`,
		set("\t\n"):                          `[\t\n]`,
		set("\x00\x01\x02"):                  `[\x00-\x02]`,
		set("\""):                            `["]`,
		alphabet.Range(0, 255):               `[\x00-\xff]`,
		alphabet.Not(set("\x00\xff")):        `[\x01-\xfe]`,
		alphabet.Range(254, 255):             `[\xfe\xff]`,
		alphabet.Range(126, 128):             `[~-\x80]`,
		alphabet.Not(alphabet.Range(1, 254)): `[\x00\xff]`,
	} {
		if got := Class(in); got != want {
			t.Errorf("Class = %s, not %s", got, want)
		}
	}
}

func TestReadClass(t *testing.T) {
	good := map[string]api.Set{
		`[a]`:             set("a"),
		`[a-a]`:           set("a"),
		`[a-c0]`:          set("abc0"),
		`[ca-b]`:          set("abc"),
		`[\]a-c]`:         set("]abc"),
		`[^\x00-y]`:       alphabet.Range('z', 255),
		`[\^]`:            set("^"),
		`[^\^]`:           alphabet.Not(set("^")),
		`[\--\]]`:         alphabet.Range('-', ']'),
		`[\n\t\\\[\-]`:    set("\n\t\\[-"),
		`[\u{41}-\u{7f}]`: alphabet.Range('A', 0x7f),
		`["/ ]`:           set(`"/ `),
		`[\x00-\xff]`:     alphabet.Range(0, 255),
		`[^\x00-\xfe]`:    set("\xff"),
	}
	for in, want := range good {
		for _, around := range [][2]string{{"", ""}, {"[", "]"}, {"\\", "-"}, {`"`, "a"}} {
			at := len(around[0])
			got, next, ok := ReadClass(around[0]+in+around[1], at)
			if got != want || next != at+len(in) || !ok {
				t.Errorf("ReadClass(%s) = %s, %d, %v", in, Class(got), next, ok)
			}
		}
	}
	for _, in := range []string{
		``, `a`, `[`, `[]`, `[^]`, `[^`, `[a`, `[a-`, `[a-]`, `[-a]`, `[b-a]`, `[b-ax]`, `[xb-a]`, `[\x00-]`, `[\x00-\q]`, `[a-b-c]`, `[^^]`, `[[]`, `[a^]`, `[a\`, `[\"]`, `[\q]`,
		`[^\x00-\xff]`, `[\u{e9}]`, `[a-\u{e9}]`, `[\u{80}]`, "[\n]", "[\x80]", "[\x7f]", `[\xA0]`, `"a"`, `[\x0]`, `[\u{}]`,
	} {
		if got, next, ok := ReadClass(in, 0); got != (api.Set{}) || next != 0 || ok {
			t.Errorf("ReadClass(%s) = %s, %d, %v", in, Class(got), next, ok)
		}
	}
}

func TestThereAndBack(t *testing.T) {
	r := rand.New(rand.NewSource(1))
	for range 20000 {
		b := make([]byte, 1+r.Intn(40))
		for i := range b {
			b[i] = byte(r.Intn(256))
		}
		in := Text(string(b))
		if got, next, ok := ReadText("\\\""+in+"\"\\", 2); got != string(b) || next != 2+len(in) || !ok {
			t.Fatalf("%s is read as %q", in, got)
		}
		x := api.Set{r.Uint64() & r.Uint64(), r.Uint64() | r.Uint64(), r.Uint64(), r.Uint64()}
		in = Class(x)
		if got, next, ok := ReadClass("[^"+in+"-]", 2); got != x || next != 2+len(in) || !ok {
			t.Fatalf("%s is read as %s", in, Class(got))
		}
	}
}
