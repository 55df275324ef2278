// Package whole has tests of what the layers come to together.
package whole

import (
	"math"
	"math/rand"
	"reflect"
	"slices"
	"testing"

	"eyot/api"
	"eyot/audit"
	"eyot/axis"
	"eyot/dialect"
	"eyot/find"
	"eyot/joint"
	"eyot/listing"
	"eyot/lower"
	"eyot/parse"
	"eyot/query"
	"eyot/sample"
	"eyot/session"
	"eyot/shore"
	"eyot/spot"
)

// maker answers modules that can be linked, as a number tells, and what goes on choosing.
func maker(i int) ([]api.Module, api.Code, *rand.Rand, bool) {
	r := rand.New(rand.NewSource(int64(i)))
	l := sample.Modules(r.Intn)
	g, f := joint.Join(l, "r0")
	if f.Err != api.OK {
		return nil, api.Code{}, r, false
	}
	c, f := lower.Lower(g)
	return l, c, r, f.Err == api.OK
}

func text(r *rand.Rand, most int) string {
	b := make([]byte, r.Intn(most))
	for i := range b {
		b[i] = "aaabbc\n"[r.Intn(7)]
	}
	return string(b)
}

func run(c api.Code, input string) api.Result {
	r := parse.Parse(c, input, false, parse.Enough(c, len(input)))
	r.Steps, r.Frames = 0, 0
	return r
}

// TestInWhateverOrder: a code takes the same, in whatever order rules, and modules behind the first one, stand.
func TestInWhateverOrder(t *testing.T) {
	for i := range 400 {
		l, c, r, ok := maker(i)
		if !ok {
			continue
		}
		for k := range l {
			r.Shuffle(len(l[k].Rules), func(a, b int) { l[k].Rules[a], l[k].Rules[b] = l[k].Rules[b], l[k].Rules[a] })
		}
		if r.Intn(2) == 0 {
			l[0], l[1] = l[1], l[0]
		}
		g, f := joint.Join(l, "m::r0")
		if f.Err != api.OK {
			t.Fatalf("%d: %v", i, f)
		}
		other, f := lower.Lower(g)
		if f.Err != api.OK || len(other.List) != len(c.List) {
			t.Fatalf("%d: %v", i, f)
		}
		for range 6 {
			input := text(r, 12)
			if a, b := run(c, input), run(other, input); !reflect.DeepEqual(a, b) {
				t.Fatalf("%d: %q: %v, %v", i, input, a, b)
			}
		}
	}
}

// TestWrittenAndRead: modules that were written, and read, come to the same code.
func TestWrittenAndRead(t *testing.T) {
	for i := range 400 {
		l, c, _, ok := maker(i)
		if !ok {
			continue
		}
		var again []api.Module
		for _, m := range l {
			x, f := dialect.Parse(dialect.Print(m))
			if f.Err != api.OK {
				t.Fatalf("%d: %v: %s", i, f, dialect.Print(m))
			}
			again = append(again, x)
		}
		g, _ := joint.Join(again, "r0")
		if other, _ := lower.Lower(g); listing.Print(other) != listing.Print(c) || listing.Print(c) == "" {
			t.Fatalf("%d: %s, not %s", i, listing.Print(other), listing.Print(c))
		}
	}
}

// TestWaterHasNoIsland: in water there is no place, step by step, at which an island, or a shore, matches ahead of the island.
func TestWaterHasNoIsland(t *testing.T) {
	g, f := sample.Join("a", `module m; water = "c" (!"c" .)* "c"; a = (~isle~ more?)*; isle = "a" "b"+; more = "b" "a";`)
	c, again := lower.Lower(g)
	if f.Err != api.OK || again.Err != api.OK {
		t.Fatal(f, again)
	}
	sea := slices.IndexFunc(g.Nodes, func(x api.Node) bool { return x.Op == api.OpSea })
	r := rand.New(rand.NewSource(3))
	waters := 0
	for range 3000 {
		input := text(r, 14)
		tree := run(c, input).Tree
		for _, i := range axis.Leaves(tree) {
			if tree[i].Kind == api.KindWater {
				waters++
				goOver(t, g, input, sea, tree[i], i == axis.Kids(tree, tree[i].Up)[0])
			}
		}
	}
	if waters < 500 {
		t.Errorf("only %d waters", waters)
	}
}

// goOver goes over a water leaf step by step; ahead tells whether it is ahead of its island.
func goOver(t *testing.T, g api.Grammar, input string, sea int, leaf api.Leaf, ahead bool) {
	t.Helper()
	stops := slices.Clone(shore.Next(g)[sea])
	if ahead {
		stops = append(stops, g.Nodes[sea].Kids[0])
	}
	at := leaf.From
	for at < leaf.To {
		for _, n := range stops {
			if end, ok := audit.Match(g, input, n, at); ok && end > at {
				t.Fatalf("%q: the water %v goes over %d at %d", input, leaf, n, at)
			}
		}
		end, ok := audit.Match(g, input, g.Waters[0], at)
		if !ok {
			end = at + 1
		}
		at = end
	}
	if at != leaf.To {
		t.Fatalf("%q: the water %v ends within a step", input, leaf)
	}
}

// TestLimitsChangeNothing: it comes to the same, or a limit is met.
func TestLimitsChangeNothing(t *testing.T) {
	for i := range 300 {
		_, c, r, ok := maker(i)
		if !ok {
			continue
		}
		input := text(r, 10)
		want := run(c, input)
		for range 10 {
			l := api.Limits{Memories: r.Intn(60) - 5, Steps: r.Intn(120), Frames: r.Intn(40)}
			got := parse.Parse(c, input, false, l)
			if got.Steps > l.Steps || got.Frames > l.Frames {
				t.Fatalf("%d: %v: %v", i, l, got)
			}
			if got.Err == api.ErrLimit {
				continue
			}
			got.Steps, got.Frames = 0, 0
			if !reflect.DeepEqual(got, want) {
				t.Fatalf("%d: %q: %v: %v, not %v", i, input, l, got, want)
			}
		}
	}
}

// TestSessions: a session's rows are its tree's nodes, at their places; a drop leaves nothing.
func TestSessions(t *testing.T) {
	rows := 0
	for i := range 400 {
		l, c, r, ok := maker(i)
		if !ok {
			continue
		}
		s := session.New()
		for _, m := range l {
			s.Do(api.Act{Kind: api.ActLoad, Text: dialect.Print(m)})
		}
		if got := s.Do(api.Act{Kind: api.ActLink, Text: "r0"}); got.N != len(c.List) {
			t.Fatalf("%d: %v", i, got)
		}
		input := text(r, 30)
		want := run(c, input)
		got := s.Do(api.Act{Kind: api.ActParse, Text: input, N: math.MinInt})
		if got.Fault.Err != want.Err || got.N != want.End {
			t.Fatalf("%d: %v, not %v", i, got, want)
		}
		if want.Err == api.OK {
			for _, q := range []string{"//*", "//#text[2]|//#water", "//#sea/*", "/*/*^*+*", "//*~\"ab\"", "//#text=\"a\"+#text", "//r0|//s0"} {
				rows += holds(t, s, want.Tree, input, q, c)
			}
		}
		s.Do(api.Act{Kind: api.ActDrop})
		later := []api.Act{{Kind: api.ActAsk, Text: "//*"}, {Kind: api.ActParse, Text: input}, {Kind: api.ActLink, Text: "r0"}, {Kind: api.ActLoad, Text: "module m;"}}
		for k, fresh := range session.Play(later) {
			if got := s.Do(later[k]); !reflect.DeepEqual(got, fresh) {
				t.Fatalf("%d: behind a drop: %v, not %v", i, got, fresh)
			}
		}
	}
	if rows < 600 {
		t.Errorf("only %d rows", rows)
	}
}

// holds holds a session's answer to a query against the layers', and tells how many rows there are.
func holds(t *testing.T, s *session.Session, tree []api.Leaf, input, ask string, c api.Code) int {
	t.Helper()
	got := s.Do(api.Act{Kind: api.ActAsk, Text: ask})
	q, _ := query.Parse(ask)
	if fault := find.Check(q, c); fault != got.Fault {
		t.Fatalf("%s: %v, not %v", ask, got.Fault, fault)
	} else if fault.Err != api.OK {
		return 0
	}
	nodes := find.Find(tree, input, q)
	if got.N != len(nodes) || len(got.Rows) != len(nodes) {
		t.Fatalf("%s: %v", ask, got)
	}
	for k, i := range nodes {
		x := tree[i]
		if got.Rows[k] != (api.Row{From: x.From, To: x.To, Spot: spot.Of(input, x.From), Text: input[x.From:x.To]}) {
			t.Fatalf("%s: %v, not %v", ask, got.Rows[k], x)
		}
	}
	return len(nodes)
}
