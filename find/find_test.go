package find

import (
	"math"
	"math/rand"
	"slices"
	"testing"

	"eyot/api"
	"eyot/query"
)

func leaf(kind int, name string, from, to, up int) api.Leaf {
	return api.Leaf{Kind: kind, Name: name, From: from, To: to, Up: up}
}

const input = "x foo(b) y"

// sample is a tree as the machine makes it.
func sample() []api.Leaf {
	return []api.Leaf{
		leaf(1, "main", 0, 10, -1), leaf(3, "", 0, 10, 0), leaf(5, "", 0, 2, 1), leaf(1, "call", 2, 8, 1), leaf(2, "name", 2, 5, 3), leaf(1, "id", 2, 5, 4),
		leaf(4, "", 2, 3, 5), leaf(4, "", 3, 4, 5), leaf(4, "", 4, 5, 5), leaf(4, "", 5, 6, 3), leaf(4, "", 6, 7, 3), leaf(4, "", 7, 8, 3), leaf(5, "", 8, 10, 1),
	}
}

func parse(t *testing.T, s string) api.Query {
	t.Helper()
	q, f := query.Parse(s)
	if f != (api.Fault{}) {
		t.Fatalf("%s: %v", s, f)
	}
	return q
}

func TestFind(t *testing.T) {
	for s, want := range map[string][]int{
		`/main`:                   {0},
		`/*`:                      {0},
		`/call`:                   nil,
		`//call`:                  {3},
		`//*`:                     {0, 1, 2, 3, 4, 5, 6, 7, 8, 9, 10, 11, 12},
		`//#rule`:                 {0, 3, 5},
		`//#label`:                {4},
		`//#sea`:                  {1},
		`//#text`:                 {6, 7, 8, 9, 10, 11},
		`//#water`:                {2, 12},
		`//#water[1]`:             {2},
		`//#water[2]`:             {12},
		`//#water[3]`:             nil,
		`//name`:                  {4},
		`//id^*`:                  {4},
		`//id^#rule`:              nil,
		`//#text^*`:               {3, 5},
		`//#text^*[2]`:            nil,
		`/main^*`:                 nil,
		`//name+*`:                {9, 10, 11},
		`//name+*[2]`:             {10},
		`//#text+*`:               {7, 8, 10, 11},
		`//#text+*[1]`:            {7, 8, 10, 11},
		`//call/*`:                {4, 9, 10, 11},
		`//call//#text[4]`:        {9},
		`//*/#text[1]`:            {6, 9},
		`//*//#text[1]`:           {6},
		`//*="o"`:                 {7, 8},
		`//*~"o"`:                 {0, 1, 3, 4, 5, 7, 8},
		`//*="foo"`:               {4, 5},
		`//*="foo"~"oo"[2]`:       {5},
		`//*="foo"~"x"`:           nil,
		`//#water~"y"`:            {12},
		`//id|//name|/main|//id`:  {0, 4, 5},
		`//id^*^*^*^*^*`:          nil,
		`//nothing`:               nil,
		`//id/#text|//call/#text`: {6, 7, 8, 9, 10, 11},
	} {
		if got := Find(sample(), input, parse(t, s)); !slices.Equal(got, want) {
			t.Errorf("%s: %v", s, got)
		}
	}
	if got := Find(sample(), input, api.Query{}); len(got) != 0 {
		t.Errorf("no paths: %v", got)
	}
	if got := Find(sample(), input, api.Query{Paths: [][]api.Hop{{}, nil}}); len(got) != 0 {
		t.Errorf("no steps: %v", got)
	}
	if got := Find(nil, input, parse(t, "//*")); len(got) != 0 {
		t.Errorf("no nodes: %v", got)
	}
}

func TestStep(t *testing.T) {
	for i, c := range []struct {
		from []int
		x    api.Hop
		want []int
	}{
		{nil, api.Hop{Axis: 2}, nil},
		{[]int{-1}, api.Hop{Axis: 1}, []int{0}},
		{[]int{-1}, api.Hop{Axis: 3}, nil},
		{[]int{-1}, api.Hop{Axis: 4}, nil},
		{[]int{5, 3, 5}, api.Hop{Axis: 1}, []int{4, 6, 7, 8, 9, 10, 11}},
		{[]int{3, 5}, api.Hop{Axis: 1, Nth: 2}, []int{7, 9}},
		{[]int{3}, api.Hop{Axis: 1, Nth: -2}, []int{4, 9, 10, 11}},
		{[]int{3}, api.Hop{Axis: 1, Nth: math.MaxInt}, nil},
		{[]int{-2, 13, 99, math.MaxInt, math.MinInt}, api.Hop{Axis: 1}, nil},
		{[]int{-2, 13, 99, math.MaxInt, math.MinInt}, api.Hop{Axis: 2}, nil},
		{[]int{-2, 13, 99, math.MaxInt, math.MinInt}, api.Hop{Axis: 3}, nil},
		{[]int{-2, 13, 99, math.MaxInt, math.MinInt}, api.Hop{Axis: 4}, nil},
		{[]int{-1}, api.Hop{}, nil}, {[]int{-1}, api.Hop{Axis: 5}, nil}, {[]int{-1}, api.Hop{Axis: -1}, nil},
		{[]int{-1}, api.Hop{Axis: 2, Kind: 99}, nil}, {[]int{-1}, api.Hop{Axis: 2, Kind: -1}, nil},
		{[]int{-1}, api.Hop{Axis: 2, Kind: 1, Name: "name"}, nil},
		{[]int{-1}, api.Hop{Axis: 2, Kind: 2, Name: "name"}, []int{4}},
		{[]int{-1}, api.Hop{Axis: 2, Is: "foo", Has: "f", Kind: 1}, []int{5}},
	} {
		if got := Step(sample(), input, c.from, c.x); !slices.Equal(got, c.want) {
			t.Errorf("%d: %v", i, got)
		}
	}
	named := []api.Leaf{leaf(4, "a", 0, 1, -1), leaf(5, "a", 0, 1, -1), leaf(3, "a", 0, 1, -1), leaf(0, "a", 0, 1, -1), leaf(2, "a", 0, 1, -1), leaf(1, "a", -5, 99, -1)}
	if got := Step(named, input, []int{-1}, api.Hop{Axis: 1, Name: "a"}); !slices.Equal(got, []int{4, 5}) {
		t.Errorf("names are of rules and labels: %v", got)
	}
	if got := Step(named, input, []int{-1}, api.Hop{Axis: 1, Is: input}); !slices.Equal(got, []int{5}) {
		t.Errorf("texts are within the input: %v", got)
	}
	bad := []api.Leaf{leaf(1, "a", 0, 1, -1), leaf(1, "a", 0, 1, 1)}
	for along := 1; along <= 4; along++ {
		if got := Step(bad, input, []int{-1, 0, 1}, api.Hop{Axis: along}); len(got) != 0 {
			t.Errorf("no tree, no steps: %v", got)
		}
	}
}

func TestKnownAndCheck(t *testing.T) {
	c := api.Code{List: []api.Ins{{Op: api.OpRef, Text: "main"}, {Op: api.OpLabel, Text: "name"}, {Op: api.OpLit, Text: "lit"}, {Op: 99, Text: "odd"}}}
	for name, want := range map[string]bool{"main": true, "name": true, "lit": false, "odd": false, "": false, "mai": false, "Main": false} {
		if Known(c, name) != want {
			t.Errorf("Known(%q)", name)
		}
	}
	if !Known(api.Code{List: []api.Ins{{Op: api.OpRef}}}, "") || Known(api.Code{}, "main") {
		t.Error("as the instructions tell")
	}
	for s, want := range map[string]api.Fault{
		`//main/name|/*/#rule`:    {},
		`/x`:                      {Err: api.ErrName},
		`/main/x/y`:               {Err: api.ErrName, Rule: 1},
		`/main|/name|/*/*/lit|/x`: {Err: api.ErrName, Module: 2, Rule: 2},
	} {
		if got := Check(parse(t, s), c); got != want {
			t.Errorf("%s: %v", s, got)
		}
	}
	for _, q := range []api.Query{{}, {Paths: [][]api.Hop{{}}}, {Paths: [][]api.Hop{{{Axis: 1, Name: "x"}}, {{Axis: 5}}}}, {Paths: [][]api.Hop{{{Axis: 1, Nth: -1}}}}} {
		if got := Check(q, c); got != (api.Fault{Err: api.ErrArg}) {
			t.Errorf("%v: %v", q, got)
		}
	}
}

// TestAsSets: all paths together lead where each does; a step from many leads where it does from each.
func TestAsSets(t *testing.T) {
	r := rand.New(rand.NewSource(26))
	hop := func() api.Hop {
		x := api.Hop{Axis: 1 + r.Intn(4), Nth: max(0, r.Intn(6)-3)}
		switch r.Intn(4) {
		case 0:
			x.Kind = 1 + r.Intn(5)
		case 1:
			x.Name = "a"
		case 2:
			x.Has = "b"
		}
		return x
	}
	join := func(a, b []int) []int {
		l := append(slices.Clone(a), b...)
		slices.Sort(l)
		return slices.Compact(l)
	}
	for range 500 {
		var l []api.Leaf
		for i := range 1 + r.Intn(15) {
			from := r.Intn(6)
			l = append(l, leaf(1+r.Intn(5), []string{"a", "b", ""}[r.Intn(3)], from, from+r.Intn(3), r.Intn(i+1)-1))
		}
		a, b := []api.Hop{hop(), hop(), hop()}, []api.Hop{hop(), hop()}
		both := Find(l, "abcabc", api.Query{Paths: [][]api.Hop{a, b}})
		if want := join(Find(l, "abcabc", api.Query{Paths: [][]api.Hop{a}}), Find(l, "abcabc", api.Query{Paths: [][]api.Hop{b}})); !slices.Equal(both, want) {
			t.Fatalf("%v, not %v", both, want)
		}
		x, from := hop(), []int{r.Intn(len(l)), -1, r.Intn(len(l))}
		var want []int
		for _, i := range from {
			want = join(want, Step(l, "abcabc", []int{i}, x))
		}
		if got := Step(l, "abcabc", from, x); !slices.Equal(got, want) {
			t.Fatalf("%v, not %v", got, want)
		}
	}
}
