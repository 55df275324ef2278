package calls

import (
	"math"
	"math/rand"
	"slices"
	"testing"

	"eyot/api"
	"eyot/empty"
	"eyot/joint"
	"eyot/sample"
	"eyot/shore"
)

func join(t *testing.T, texts ...string) api.Grammar {
	t.Helper()
	g, f := sample.Join("a", texts...)
	if f.Err != api.OK {
		t.Fatalf("%s: %v", texts, f)
	}
	return g
}

func TestCalls(t *testing.T) {
	for _, c := range []struct {
		text string
		want []int // of the body of a, which is the node 0
	}{
		{`a = "x";`, nil}, {`a = .;`, nil}, {`a = b; b = .;`, []int{1}}, {`a = a;`, []int{0}},
		{`a = "x" "y";`, []int{1}}, {`a = "x"? "y" "z";`, []int{1, 3}}, {`a = "x"? "y"* &"z";`, []int{1, 3, 5}},
		{`a = "x" / "y" / "z";`, []int{1, 2, 3}}, {`a = "x"*;`, []int{1}}, {`a = !"x";`, []int{1}}, {`a = &"x";`, []int{1}}, {`a = l:"x";`, []int{1}},
		{`a = ~"x"~;`, []int{1}}, {`a = "x"?;`, []int{1}}, {`a = "x"+;`, []int{1}},
	} {
		g := join(t, "module m;"+c.text)
		if got := Calls(g, nil, 0); !slices.Equal(got, c.want) {
			t.Errorf("%s: %v", c.text, got)
		}
	}
}

func TestCallsOfSeas(t *testing.T) {
	g := join(t, `module m; import n; water = "w"; a = ~"x"~ "y" "z"; b = "q";`, `module n; c = ~"i"~;`)
	sea, other := 2, 7
	if g.Nodes[sea].Op != api.OpSea || g.Nodes[other].Op != api.OpSea {
		t.Fatal("the nodes stand elsewhere")
	}
	next := make([][]int, len(g.Nodes))
	next[sea] = []int{6, 4, 4, 3}
	next[3] = []int{5}
	if got := Calls(g, next, sea); !slices.Equal(got, []int{0, 3, 4, 6}) {
		t.Errorf("island, shores, water: %v", got)
	}
	if got := Calls(g, next[:sea], sea); !slices.Equal(got, []int{0, 3}) {
		t.Errorf("island, water: %v", got)
	}
	if got := Calls(g, next, other); !slices.Equal(got, []int{8}) {
		t.Errorf("the other module has no water: %v", got)
	}
	if got := Calls(g, next, 3); len(got) != 0 {
		t.Errorf("no sea, no shores: %v", got)
	}
	if got := Calls(g, append(next, []int{1}), sea); !slices.Equal(got, []int{0, 3, 4, 6}) {
		t.Errorf("longer lists: %v", got)
	}
}

func TestNoSuchNode(t *testing.T) {
	g := join(t, `module m; a = "x";`)
	for _, n := range []int{-1, 1, math.MaxInt, math.MinInt} {
		if got := Calls(g, nil, n); len(got) != 0 {
			t.Errorf("there is no node %d: %v", n, got)
		}
	}
	if len(Calls(api.Grammar{}, nil, 0)) != 0 || Cycle(api.Grammar{}, nil) != -1 {
		t.Error("there are no nodes")
	}
}

func TestCycle(t *testing.T) {
	for text, want := range map[string]int{
		`a = "x";`:                       -1,
		`a = a;`:                         0,
		`a = "x" a;`:                     -1,
		`a = "x"? a;`:                    0,
		`a = b; b = "y"? a;`:             0,
		`a = "x" b; b = "y"? c; c = !b;`: 3,
		`a = "x" b; b = !"y" c / c "x"; c = ("z" / b)+;`: 3,
		`a = (~("x" a)~)*;`: -1,
	} {
		g := join(t, "module m;"+text)
		if got := Cycle(g, nil); got != want {
			t.Errorf("%s: %d", text, got)
		}
	}
	g := join(t, `module m; water = "w" / b; a = "y"; b = ~"x"~;`)
	if got := Cycle(g, nil); got != 0 {
		t.Errorf("the water calls the sea, that goes over it: %d", got)
	}
	g = join(t, `module m; a = ~"x"~ "y";`)
	if got := Cycle(g, [][]int{1: {0}}); got != 0 {
		t.Errorf("a shore calls its sea: %d", got)
	}
	if got := Cycle(g, [][]int{1: {1}}); got != 1 {
		t.Errorf("a shore is its sea: %d", got)
	}
}

// TestAnOrder: without a cycle nodes can be put in an order, each behind those that it calls; with one, the node told calls itself.
func TestAnOrder(t *testing.T) {
	counts := [2]int{}
	for i := range 600 {
		g, f := joint.Join(sample.Modules(rand.New(rand.NewSource(int64(i))).Intn), "r0")
		if f.Err != api.OK {
			continue
		}
		next := shore.Next(g)
		placed := make([]bool, len(g.Nodes))
		for range g.Nodes {
			for n := range g.Nodes {
				ready := true
				for _, k := range Calls(g, next, n) {
					ready = ready && placed[k]
				}
				placed[n] = placed[n] || ready
			}
		}
		cycle := Cycle(g, next)
		if (cycle < 0) == slices.Contains(placed, false) || cycle >= 0 && placed[cycle] {
			t.Errorf("%d: %d, %v", i, cycle, placed)
		}
		counts[max(-1, min(cycle, 0))+1]++
	}
	if counts[0] < 20 || counts[1] < 10 {
		t.Errorf("too few of one kind: %v", counts)
	}
}

func TestBodyOfReference(t *testing.T) {
	g := join(t, `module m; import n; a = n::b;`, `module n; b = "x";`)
	if got := Calls(g, nil, 0); !slices.Equal(got, []int{empty.Body(g, 0)}) {
		t.Errorf("%v", got)
	}
}
