package lead

import (
	"math"
	"math/rand"
	"reflect"
	"slices"
	"testing"

	"eyot/api"
	"eyot/empty"
	"eyot/joint"
	"eyot/sample"
	"eyot/writer"
)

func TestPut(t *testing.T) {
	for _, c := range []struct {
		l    []int
		n    int
		want []int
	}{
		{nil, 3, []int{3}}, {[]int{3}, 3, []int{3}}, {[]int{1, 5}, 3, []int{1, 3, 5}}, {[]int{1, 5}, 0, []int{0, 1, 5}}, {[]int{1, 5}, 9, []int{1, 5, 9}},
		{[]int{1, 5}, 5, []int{1, 5}}, {[]int{1, 5}, 1, []int{1, 5}}, {[]int{5, 1}, 1, []int{1, 5, 1}}, {[]int{0, 5, 3}, 3, []int{0, 3, 5, 3}},
		{[]int{-2, math.MaxInt}, math.MinInt, []int{math.MinInt, -2, math.MaxInt}}, {[]int{2, 2}, 2, []int{2, 2}}, {[]int{2, 2}, 3, []int{2, 2, 3}},
	} {
		room := append(make([]int, 0, 9), c.l...)
		got := Put(room, c.n)
		if !slices.Equal(got, c.want) || !slices.Equal(room, c.l) {
			t.Errorf("Put(%v, %d) = %v", c.l, c.n, got)
		}
		if spare := room[:9]; slices.ContainsFunc(spare[len(c.l):], func(n int) bool { return n != 0 }) {
			t.Error("the spare room was changed")
		}
		got[0] = 77
		if !slices.Equal(room, c.l) {
			t.Error("the answer is no new memory")
		}
	}
}

func join(t *testing.T, body string) api.Grammar {
	t.Helper()
	g, f := sample.Join("a", "module m; water = ~w~; a = "+body+"; sea = ~w~; full = \"f\"; w = \"w\" sea; round = full round / round2; round2 = round (~r~)?; r = .;")
	if f.Err != api.OK {
		t.Fatalf("%s: %v", body, f)
	}
	return g
}

// text writes the node n.
func text(g api.Grammar, n int) string {
	var back func(n int) api.Expr
	back = func(n int) api.Expr {
		e := api.Expr{Op: g.Nodes[n].Op, Text: g.Nodes[n].Text, Set: g.Nodes[n].Set}
		for _, k := range g.Nodes[n].Kids {
			e.Kids = append(e.Kids, back(k))
		}
		return e
	}
	return writer.Print(back(n))
}

// TestOfBodies: of a body whether a sea may stand first in it, and what stands for it.
func TestOfBodies(t *testing.T) {
	for _, c := range []struct {
		body string
		led  bool
		lead []string
	}{
		{`"x"`, false, []string{`"x"`}},
		{`.`, false, []string{`.`}},
		{`[a]`, false, []string{`[a]`}},
		{`full`, false, []string{`"f"`}},
		{`w`, false, []string{`"w" sea`}},
		{`sea`, true, []string{`"w" sea`}},
		{`~"x"~`, true, []string{`"x"`}},
		{`"x" "y"`, false, []string{`"x" "y"`}},
		{`"x" / "y"`, false, []string{`"x" / "y"`}},
		{`"x" / sea`, true, []string{`"x"`, `"w" sea`}},
		{`"x" sea`, false, []string{`"x" sea`}},
		{`"x"? sea "z"`, true, []string{`"x"`, `"w" sea`}},
		{`"x"? sea? ("y" / "z") "q"`, true, []string{`"x"`, `"y" / "z"`, `"w" sea`}},
		{`"x"? "y" sea`, false, []string{`"x"? "y" sea`}},
		{`!sea "x"`, false, []string{`!sea "x"`}},
		{`&"q" sea`, true, []string{`"w" sea`}},
		{`&sea`, false, nil},
		{`!"x"`, false, nil},
		{`(&"x")?`, false, nil},
		{`"x"*`, false, []string{`"x"`}},
		{`("x" "y")+`, false, []string{`"x" "y"`}},
		{`(~"x"~)*`, true, []string{`"x"`}},
		{`(~("x" / "y")~)*`, true, []string{`"x" / "y"`}},
		{`x:("x" / "y")`, false, []string{`"x" / "y"`}},
		{`x:sea?`, true, []string{`"w" sea`}},
		{`~(~"x"~ / "y")~`, true, []string{`"x"`, `"y"`}},
		{`a`, false, nil},
		{`a / "x"`, false, []string{`a / "x"`}},
		{`a / sea`, true, []string{`"w" sea`}},
		{`"y"? a / sea`, true, []string{`"y"`, `"w" sea`}},
		{`round`, false, []string{`full round / round2`}},
	} {
		g := join(t, c.body)
		n := g.Heads[0].Body
		if Led(g)[n] != c.led {
			t.Errorf("%s: %v", c.body, Led(g)[n])
		}
		var lead []string
		l := Lead(g, n)
		for _, k := range l {
			lead = append(lead, text(g, k))
		}
		if !reflect.DeepEqual(lead, c.lead) || !slices.IsSorted(l) {
			t.Errorf("%s: %q", c.body, lead)
		}
	}
}

func TestNoSuchNode(t *testing.T) {
	g := join(t, `"x"`)
	for _, n := range []int{-1, len(g.Nodes), math.MaxInt, math.MinInt} {
		if len(Lead(g, n)) != 0 {
			t.Errorf("there is no node %d", n)
		}
	}
	if len(Lead(api.Grammar{}, 0)) != 0 || len(Led(api.Grammar{})) != 0 {
		t.Error("there are no nodes")
	}
}

// TestByTheRules: in what stands for a node no sea may stand first; marks hold by the rules; each is found once.
func TestByTheRules(t *testing.T) {
	seas := 0
	for i := range 300 {
		g, f := joint.Join(sample.Modules(rand.New(rand.NewSource(int64(i))).Intn), "r0")
		if f.Err != api.OK {
			continue
		}
		led, nullable := Led(g), empty.Nullable(g)
		for n, x := range g.Nodes {
			want := x.Op == api.OpSea || x.Op == api.OpRef && led[empty.Body(g, n)]
			for _, k := range x.Kids {
				want = want || led[k] && x.Op != api.OpAnd && x.Op != api.OpNot
				if x.Op == api.OpSeq && !nullable[k] {
					break
				}
			}
			if led[n] != want {
				t.Errorf("%d: Led of %d: %v", i, n, led[n])
			}
			l := Lead(g, n)
			for j, k := range l {
				if led[k] || j > 0 && l[j-1] >= k {
					t.Errorf("%d: Lead of %d: %v", i, n, l)
				}
			}
			if led[n] {
				seas++
			}
		}
	}
	if seas == 0 {
		t.Error("no seas were met")
	}
}

func TestExample(t *testing.T) {
	g, _ := sample.Join("main", `module m; main = (~call~)*; call = "c" "(";`)
	if l := Lead(g, g.Heads[0].Body); len(l) != 1 || l[0] != g.Heads[1].Body {
		t.Errorf("what stands for call: %v", l)
	}
}
