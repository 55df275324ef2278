package query

import (
	"math"
	"math/rand"
	"reflect"
	"strings"
	"testing"

	"eyot/api"
)

func TestParse(t *testing.T) {
	for s, want := range map[string][][]api.Hop{
		`/a`:      {{{Axis: 1, Name: "a"}}},
		`//a`:     {{{Axis: 2, Name: "a"}}},
		`^*`:      {{{Axis: 3}}},
		`+#rule`:  {{{Axis: 4, Kind: 1}}},
		`/#label`: {{{Axis: 1, Kind: 2}}},
		`/#sea`:   {{{Axis: 1, Kind: 3}}},
		`/#text`:  {{{Axis: 1, Kind: 4}}},
		`/#water`: {{{Axis: 1, Kind: 5}}},
		`//call/name="x"[2]|/#sea+*`: {
			{{Axis: 2, Name: "call"}, {Axis: 1, Name: "name", Is: "x", Nth: 2}},
			{{Axis: 1, Kind: 3}, {Axis: 4}},
		},
		`/a="|/"~"\""[9999]`: {{{Axis: 1, Name: "a", Is: "|/", Has: "\"", Nth: 9999}}},
		`/*~"\n"`:            {{{Axis: 1, Has: "\n"}}},
		`/*[1]`:              {{{Axis: 1, Nth: 1}}},
		`/abcdefghijkl/Z_9`:  {{{Axis: 1, Name: "abcdefghijkl"}, {Axis: 1, Name: "Z_9"}}},
		`/azAZ09_`:           {{{Axis: 1, Name: "azAZ09_"}}}, `/zA`: {{{Axis: 1, Name: "zA"}}}, `/Za`: {{{Axis: 1, Name: "Za"}}}, `/Az`: {{{Axis: 1, Name: "Az"}}},
		`/waters`:  {{{Axis: 1, Name: "waters"}}},
		`//a//b/c`: {{{Axis: 2, Name: "a"}, {Axis: 2, Name: "b"}, {Axis: 1, Name: "c"}}},
		`/a|/a`:    {{{Axis: 1, Name: "a"}}, {{Axis: 1, Name: "a"}}},
	} {
		q, f := Parse(s)
		if !reflect.DeepEqual(q.Paths, want) || f != (api.Fault{}) {
			t.Errorf("%s: %v, %v", s, q, f)
		}
	}
}

func TestFormFaults(t *testing.T) {
	for s, at := range map[string]int{
		``: 0, `a`: 0, `|`: 0, ` /a`: 0, `#rule`: 0, `*`: 0, `=`: 0,
		`/`: 1, `//`: 2, `///a`: 2, `/^a`: 1, `/ a`: 1, `/9`: 1, `/_a`: 1, `/"a"`: 1, `/|/a`: 1, `/=`: 1,
		`/water`: 1, `//module`: 2, `/a/import/b`: 3, `/water="a"`: 1, `/water9`: -1,
		`/#`: 1, `/#rul`: 1, `/#Rule`: 1, `/##rule`: 1, `/#a`: 1, `/#rulex`: 6, `/#rules`: 6, `/#text9`: 6, `/#rule#sea`: 6, `/#seaa`: 5, `/# rule`: 1,
		`/abcdefghijklm`: 13, `/abcdefghijkl_`: 13, `/a-b`: 2, `/a b`: 2, `/a `: 2, `/a#rule`: 2, `/a*`: 2, `/**`: 2, "/a\x00": 2, "/a\xff": 2, `/a::b`: 2,
		`/a|`: 3, `/a||/b`: 3, `/a|b`: 3, `/a| /b`: 3,
		`/a=`: 3, `/a=b`: 3, `/a=""`: 3, `/a="x`: 3, `/a= "x"`: 3, `/a="\q"`: 3, `/a="x"="y"`: 6, `/a="x"y`: 6, `/a~`: 3, `/a~x`: 3, `/a~"x"="y"`: 6, `/a~"x"~"y"`: 6,
		`/a="` + strings.Repeat("x", 41) + `"`: 3,
		`/a[`:                                  3, `/a[]`: 3, `/a[0]`: 3, `/a[01]`: 3, `/a[x]`: 3, `/a[-1]`: 3, `/a[+1]`: 3, `/a[ 1]`: 3, `/a[1`: 4, `/a[1x]`: 4, `/a[1 ]`: 4, `/a[12345]`: 7, `/a[99999999999999999999]`: 7, `/a[1234`: 7,
		`/a[1][2]`: 5, `/a[1]="x"`: 5, `/a[1]~"x"`: 5, `/a[1]b`: 5, `/a]`: 2, `/a=[1]`: 3,
	} {
		q, f := Parse(s)
		want := api.Fault{Err: api.ErrForm, At: at}
		if at < 0 {
			want = api.Fault{}
		}
		if (at >= 0 && len(q.Paths) != 0) || f != want {
			t.Errorf("%s: %v, not %v", s, f, want)
		}
	}
}

func TestLargeFaults(t *testing.T) {
	twelve, eight := strings.Repeat("/a", 12), strings.Repeat("/a|", 7)+"/a"
	for _, c := range []struct {
		s   string
		err api.Errno
		at  int
	}{
		{twelve, api.OK, 0},
		{twelve + `="x"~"y"[3]`, api.OK, 0},
		{twelve + "|" + twelve, api.OK, 0},
		{twelve + "/a", api.ErrLarge, 24},
		{twelve + "x", api.OK, 0}, // still of the twelfth name
		{twelve + "bcdefghijklm", api.ErrLarge, 35},
		{twelve + " ", api.ErrLarge, 24},
		{twelve + "]", api.ErrLarge, 24},
		{twelve + "\xff", api.ErrLarge, 24},
		{twelve + "#rule", api.ErrLarge, 24},
		{twelve + `="x"="y"`, api.ErrLarge, 28},
		{twelve + `[1]~"y"`, api.ErrLarge, 27},
		{twelve + `=`, api.ErrForm, 25},
		{twelve + `[0]`, api.ErrForm, 25},
		{twelve + `|`, api.ErrForm, 25},
		{twelve + `|x`, api.ErrForm, 25},
		{"/b|" + twelve + "/", api.ErrLarge, 27},
		{strings.Repeat("/a", 11) + "/", api.ErrForm, 23},
		{strings.Repeat("/a", 11) + " ", api.ErrForm, 22},
		{eight, api.OK, 0},
		{eight + "|", api.ErrLarge, 24},
		{eight + "|/a", api.ErrLarge, 24},
		{eight + "|$", api.ErrLarge, 24},
		{eight + "||", api.ErrLarge, 24},
		{eight + "$", api.ErrForm, 23},
		{strings.Repeat("/a|", 7), api.ErrForm, 21},
		{eight + strings.Repeat("/a", 11) + "|", api.ErrLarge, 46},
		{eight + strings.Repeat("/a", 12) + "|", api.ErrLarge, 45},
	} {
		q, f := Parse(c.s)
		if f != (api.Fault{Err: c.err, At: c.at}) || (len(q.Paths) > 0) != (c.err == api.OK) {
			t.Errorf("%s: %v", c.s, f)
		}
	}
}

func TestPrint(t *testing.T) {
	for _, c := range []struct {
		want  string
		paths [][]api.Hop
	}{
		{``, nil},
		{`|`, [][]api.Hop{{}, {}}},
		{`/*`, [][]api.Hop{{{Axis: 1}}}},
		{`//#rule^#label+#sea/#text/#water`, [][]api.Hop{{{Axis: 2, Kind: 1}, {Axis: 3, Kind: 2}, {Axis: 4, Kind: 3}, {Axis: 1, Kind: 4}, {Axis: 1, Kind: 5}}}},
		{`***`, [][]api.Hop{{{Axis: 0, Kind: 6}, {Axis: 5, Kind: -1}, {Axis: math.MinInt, Kind: math.MaxInt}}}},
		{`/a="x\""~"\n"[12]|/b`, [][]api.Hop{{{Axis: 1, Name: "a", Kind: 3, Is: "x\"", Has: "\n", Nth: 12}}, {{Axis: 1, Name: "b"}}}},
		{`/*/*[10000]`, [][]api.Hop{{{Axis: 1, Nth: -1}, {Axis: 1, Nth: 10000}}}},
		{`/not a name`, [][]api.Hop{{{Axis: 1, Name: "not a name"}}}},
	} {
		if got := Print(api.Query{Paths: c.paths}); got != c.want {
			t.Errorf("%s, not %s", got, c.want)
		}
	}
}

func TestRight(t *testing.T) {
	good := api.Hop{Axis: 1, Name: "a", Is: strings.Repeat("\xff", 40), Has: strings.Repeat("y", 40), Nth: 9999}
	paths := func(count, hops int) api.Query {
		var q api.Query
		for range count {
			var l []api.Hop
			for range hops {
				l = append(l, good)
			}
			q.Paths = append(q.Paths, l)
		}
		return q
	}
	if !Right(paths(1, 1)) || !Right(paths(8, 12)) {
		t.Error("these may be")
	}
	for _, q := range []api.Query{{}, paths(1, 0), paths(9, 1), paths(1, 13), {Paths: append(paths(1, 1).Paths, nil)}} {
		if Right(q) {
			t.Errorf("%d paths may not be", len(q.Paths))
		}
	}
	for i, x := range []api.Hop{{Axis: 1}, {Axis: 4, Kind: 5}, {Axis: 2, Kind: 1, Nth: 1}, {Axis: 3, Name: "Z_1"}} {
		if q := paths(2, 2); !Right(api.Query{Paths: append(q.Paths, []api.Hop{x})}) {
			t.Errorf("%d may be", i)
		}
	}
	for i, x := range []api.Hop{
		{}, {Axis: 5}, {Axis: -1}, {Axis: math.MaxInt}, {Axis: 1, Kind: 6}, {Axis: 1, Kind: -1}, {Axis: 1, Kind: math.MinInt}, {Axis: 1, Kind: 1, Name: "a"},
		{Axis: 1, Name: "water"}, {Axis: 1, Name: "a b"}, {Axis: 1, Name: "m::a"}, {Axis: 1, Name: "abcdefghijklm"}, {Axis: 1, Is: strings.Repeat("x", 41)}, {Axis: 1, Has: strings.Repeat("x", 41)},
		{Axis: 1, Nth: -1}, {Axis: 1, Nth: 10000}, {Axis: 1, Nth: math.MaxInt},
	} {
		if q := paths(2, 2); Right(api.Query{Paths: append(q.Paths, []api.Hop{good, x})}) {
			t.Errorf("%d may not be", i)
		}
	}
}

func TestThereAndBack(t *testing.T) {
	r := rand.New(rand.NewSource(24))
	text := func() string {
		b := make([]byte, r.Intn(4)*r.Intn(14))
		for i := range b {
			b[i] = byte(r.Intn(256))
		}
		return string(b)
	}
	for range 3000 {
		var q api.Query
		for range 1 + r.Intn(8) {
			var l []api.Hop
			for range 1 + r.Intn(12) {
				x := api.Hop{Axis: 1 + r.Intn(4), Is: text(), Has: text(), Nth: r.Intn(3) * r.Intn(5000)}
				if r.Intn(2) == 0 {
					x.Name = []string{"a", "abcdefghijkl", "Water", "b_9"}[r.Intn(4)]
				} else {
					x.Kind = r.Intn(6)
				}
				l = append(l, x)
			}
			q.Paths = append(q.Paths, l)
		}
		got, f := Parse(Print(q))
		if Right(q) != (f == api.Fault{}) || Right(q) && !reflect.DeepEqual(got, q) {
			t.Fatalf("%s: %v, %v", Print(q), got, f)
		}
	}
}
