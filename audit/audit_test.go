package audit

import (
	"math"
	"math/rand"
	"slices"
	"strings"
	"testing"

	"eyot/api"
	"eyot/joint"
	"eyot/lower"
	"eyot/machine"
	"eyot/parse"
	"eyot/sample"
)

func join(t *testing.T, text string) api.Grammar {
	t.Helper()
	g, f := sample.Join("a", text)
	if f.Err != api.OK {
		t.Fatalf("%s: %v", text, f)
	}
	return g
}

// TestMatchOfEachOp: of a body, an input and a place the end; -1: it fails.
func TestMatchOfEachOp(t *testing.T) {
	for _, c := range []struct {
		body, input string
		at, end     int
	}{
		{`"ab"`, "xabc", 1, 3}, {`"ab"`, "xa", 1, -1}, {`"ab"`, "x", 1, -1}, {`[a-c]`, "b", 0, 1}, {`[a-c]`, "d", 0, -1}, {`[a-c]`, "", 0, -1}, {`.`, "\xff", 0, 1}, {`.`, "x", 1, -1},
		{`"a" "b"`, "ab", 0, 2}, {`"a" "b"`, "aab", 1, 3}, {`"a" "b"`, "ac", 0, -1}, {`"ab" / "a"`, "ac", 0, 1}, {`"a" / "ab"`, "ab", 0, 1}, {`"a" / "b"`, "c", 0, -1},
		{`"a"*`, "aab", 0, 2}, {`"a"*`, "b", 0, 0}, {`"a"+`, "aab", 0, 2}, {`"a"+`, "b", 0, -1}, {`"a"?`, "aa", 0, 1}, {`"a"?`, "b", 0, 0},
		{`&"a"`, "a", 0, 0}, {`&"a"`, "b", 0, -1}, {`!"a"`, "a", 0, -1}, {`!"a"`, "b", 0, 0}, {`!"a"`, "", 0, 0}, {`b`, "b", 0, 1}, {`b`, "a", 0, -1}, {`l:b`, "b", 0, 1}, {`l:b`, "a", 0, -1},
		{`~"i"~`, "xxiyy", 0, 5}, {`~"i"~`, "xxiyy", 3, -1}, {`~"i"~`, "", 0, -1}, {`~"i"~ "s"`, "xixs", 0, 4}, {`~"i"~ "s"`, "xsis", 0, -1}, {`~"i"~ "s"?`, "xixs", 0, 4},
		{`(~"i"~)*`, "xixix", 0, 5}, {`~"i"~`, "x#i#i", 0, 5}, {`~"i"~ "s"`, "#s#i#s#s", 0, 8}, {`~"i"~ "s"`, "#iis", 0, 4}, {`~("i" / "s")~ "s"`, "ss", 0, 2},
		{`"a" a / "b"`, "aab", 0, 3}, {`~"i"~ ("s"? "t"?)`, "xixt", 0, 4}, {`~"i"~ ("s"? "t"?)`, "xsit", 0, -1}, {`~"i"~ ("s"? "t"?)`, "i", 0, 1},
	} {
		g := join(t, `module m; water = "#" (!"#" .)* "#"; a = `+c.body+`; b = "b";`)
		end, ok := Match(g, c.input, g.Heads[0].Body, c.at)
		if want := max(c.end, 0); end != want || ok != (c.end >= 0) {
			t.Errorf("%s of %q at %d: %d, %v", c.body, c.input, c.at, end, ok)
		}
	}
}

func TestMatchOfNone(t *testing.T) {
	g := join(t, `module m; a = "x"*;`)
	for _, c := range [][2]int{{-1, 0}, {2, 0}, {math.MaxInt, 0}, {math.MinInt, 0}, {0, -1}, {0, 3}, {0, math.MaxInt}, {0, math.MinInt}} {
		if end, ok := Match(g, "xx", c[0], c[1]); end != 0 || ok {
			t.Errorf("%v: %d", c, end)
		}
	}
	if end, ok := Match(g, "xx", 0, 2); end != 2 || !ok {
		t.Error("the end is a place")
	}
	for _, text := range []string{`a = "x"; b = b;`, `a = "x"; b = ("y"?)*;`, `water = "w"?; a = "x";`} {
		if end, ok := Match(join(t, "module m;"+text), "x", 1, 0); end != 0 || ok {
			t.Errorf("%s may not be", text)
		}
	}
	if _, ok := Match(api.Grammar{}, "", 0, 0); ok {
		t.Error("there are no nodes")
	}
}

func TestMatchOfLongInputs(t *testing.T) {
	g := join(t, `module m; a = "(" a ")" / "(" a "]" / "x"; b = ~(~"q"~ "p")~ / .*;`)
	input := strings.Repeat("(", 999) + "x" + strings.Repeat("]", 1000)
	if end, ok := Match(g, input, g.Heads[0].Body, 0); end != 1999 || !ok {
		t.Errorf("%d, %v", end, ok)
	}
	if end, ok := Match(g, strings.Repeat("q", 2000), g.Heads[1].Body, 0); end != 2000 || !ok {
		t.Errorf("%d, %v", end, ok)
	}
}

// TestTheSame: a code takes what its grammar does, from each rule on, and its tree tiles that.
func TestTheSame(t *testing.T) {
	counts := [2]int{}
	for i := range 700 {
		r := rand.New(rand.NewSource(int64(i)))
		l := sample.Modules(r.Intn)
		for _, start := range []string{"r0", "r1", "r2", "n::s0", "s1"} {
			g, f := joint.Join(l, start)
			if f.Err != api.OK {
				continue
			}
			c, f := lower.Lower(g)
			if f.Err != api.OK {
				continue
			}
			b := make([]byte, r.Intn(14))
			for k := range b {
				b[k] = "aaabbc\x00"[r.Intn(7)]
			}
			input := string(b)
			got := machine.Run(c, input, parse.Enough(c, len(input)))
			end, ok := Match(g, input, g.Heads[g.Start].Body, 0)
			if end != got.End || ok != (got.Err == api.OK) || ok && !Tiles(got.Tree, input, end) {
				t.Fatalf("%d: %q: %v, but %d, %v", i, input, got, end, ok)
			}
			if ok {
				counts[1]++
				breakAll(t, got.Tree, input, end)
			} else {
				counts[0]++
			}
		}
	}
	if counts[0] < 500 || counts[1] < 500 {
		t.Errorf("too few of one kind: %v", counts)
	}
}

// breakAll changes a tree that tiles at each place a little; it doesn't tile any more.
func breakAll(t *testing.T, tree []api.Leaf, input string, end int) {
	t.Helper()
	for i := range tree {
		for k, change := range []func(x *api.Leaf){
			func(x *api.Leaf) { x.From++ }, func(x *api.Leaf) { x.From-- }, func(x *api.Leaf) { x.To++ }, func(x *api.Leaf) { x.To-- }, func(x *api.Leaf) { x.Up = i },
		} {
			l := slices.Clone(tree)
			change(&l[i])
			if Tiles(l, input, end) {
				t.Fatalf("the change %d of %d: %v", k, i, l)
			}
		}
	}
}

func leaf(kind, from, to, up int) api.Leaf {
	return api.Leaf{Kind: kind, From: from, To: to, Up: up}
}

func TestTiles(t *testing.T) {
	const rule, label, sea, text, water = api.KindRule, api.KindLabel, api.KindSea, api.KindText, api.KindWater
	for i, c := range []struct {
		l    []api.Leaf
		end  int
		want bool
	}{
		{nil, 0, true}, {nil, 1, false}, {nil, -1, false}, {nil, 7, false},
		{[]api.Leaf{leaf(rule, 0, 2, -1), leaf(text, 0, 1, 0), leaf(text, 1, 2, 0)}, 2, true},
		{[]api.Leaf{leaf(rule, 0, 2, -1), leaf(text, 0, 1, 0), leaf(text, 1, 2, 0)}, 3, false},
		{[]api.Leaf{leaf(rule, 0, 2, -1), leaf(text, 0, 1, 0), leaf(text, 1, 2, 0)}, 1, false},
		{[]api.Leaf{leaf(rule, 0, 2, -1), leaf(text, 0, 1, 0)}, 2, false},                        // the last leaf doesn't end there
		{[]api.Leaf{leaf(rule, 0, 2, -1), leaf(text, 1, 2, 0)}, 2, false},                        // the first one doesn't begin at 0
		{[]api.Leaf{leaf(rule, 0, 3, -1), leaf(text, 0, 1, 0), leaf(water, 2, 3, 0)}, 3, false},  // a gap
		{[]api.Leaf{leaf(rule, 0, 3, -1), leaf(text, 0, 2, 0), leaf(water, 1, 3, 0)}, 3, false},  // one over the other
		{[]api.Leaf{leaf(rule, 0, 2, -1), leaf(text, 0, 2, 0), leaf(text, 2, 2, 0)}, 2, false},   // an empty leaf
		{[]api.Leaf{leaf(rule, 0, 2, -1), leaf(text, 1, 2, 0), leaf(text, 0, 1, 0)}, 2, false},   // out of order
		{[]api.Leaf{leaf(text, 0, 1, -1), leaf(water, 1, 2, -1)}, 2, true},                       // several at the top
		{[]api.Leaf{leaf(text, 0, 2, -1), leaf(label, 0, 0, 0)}, 2, false},                       // in a leaf
		{[]api.Leaf{leaf(rule, 0, 0, -1)}, 0, true},                                              // of nothing
		{[]api.Leaf{leaf(rule, 0, 1, -1)}, 0, false},                                             //
		{[]api.Leaf{leaf(rule, 0, 1, -1), leaf(text, 0, 1, -1)}, 1, false},                       // From isn't To, and nothing in it
		{[]api.Leaf{leaf(rule, 1, 1, -1), leaf(text, 0, 1, -1), leaf(label, 0, 0, -1)}, 1, true}, // at the top any order
		{[]api.Leaf{leaf(rule, 0, 1, -1), leaf(label, 0, 0, 0), leaf(text, 0, 1, 0), leaf(sea, 1, 1, 0)}, 1, true},
		{[]api.Leaf{leaf(rule, 0, 1, -1), leaf(label, 1, 1, 0), leaf(text, 0, 1, 0)}, 1, false}, // side by side in each node
		{[]api.Leaf{leaf(rule, 0, 1, -1), leaf(label, 0, 1, 0), leaf(text, 0, 1, 0)}, 1, false}, //
		{[]api.Leaf{leaf(rule, 0, 1, -1), leaf(label, 0, 1, 0), leaf(text, 0, 1, 1)}, 1, true},  //
		{[]api.Leaf{leaf(99, 0, 1, -1), leaf(text, 0, 1, 0)}, 1, true},                          // any other kind is no leaf
		{[]api.Leaf{leaf(rule, 0, 1, -1), leaf(99, 0, 1, 0)}, 1, false},                         //
		{[]api.Leaf{leaf(rule, 0, 1, -1), leaf(text, 0, 1, 0), leaf(label, 1, 0, 0)}, 1, false}, // To below From
		{[]api.Leaf{leaf(rule, -1, 1, -1), leaf(text, 0, 1, 0)}, 1, false},                      // From below 0
		{[]api.Leaf{leaf(text, 0, 1, -1), leaf(rule, -1, -1, -1)}, 1, false},                    //
		{[]api.Leaf{leaf(text, 0, 1, -1), leaf(rule, 2, 2, -1)}, 1, false},                      // beyond the end
		{[]api.Leaf{leaf(rule, 0, 1, 0), leaf(text, 0, 1, 0)}, 1, false},                        // no tree
		{[]api.Leaf{leaf(rule, 0, 1, -2), leaf(text, 0, 1, 0)}, 1, false},                       //
		{[]api.Leaf{leaf(rule, 0, 1, math.MaxInt), leaf(text, 0, 1, math.MinInt)}, 1, false},    //
		{[]api.Leaf{leaf(text, 0, math.MaxInt, -1)}, 1, false},                                  //
		{[]api.Leaf{leaf(text, math.MinInt, 1, -1)}, 1, false},                                  //
		{[]api.Leaf{leaf(text, 0, 4, -1)}, 4, false},                                            // beyond the input
		{[]api.Leaf{leaf(text, 0, 3, -1)}, 3, true},                                             //
	} {
		if got := Tiles(c.l, "abc", c.end); got != c.want {
			t.Errorf("%d: %v up to %d: %v", i, c.l, c.end, got)
		}
	}
}
