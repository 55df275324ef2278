package shore

import (
	"math/rand"
	"slices"
	"testing"

	"eyot/api"
	"eyot/empty"
	"eyot/joint"
	"eyot/lead"
	"eyot/sample"
)

func join(t *testing.T, text string) api.Grammar {
	t.Helper()
	g, f := sample.Join("a", "module m;"+text)
	if f.Err != api.OK {
		t.Fatalf("%s: %v", text, f)
	}
	return g
}

// literals tells the literals among nodes; a ? for another.
func literals(g api.Grammar, l []int) string {
	s := ""
	for _, n := range l {
		if x := g.Nodes[n]; x.Op == api.OpLit {
			s += x.Text
		} else {
			s += "?"
		}
	}
	return s
}

// TestBehindThat: what comes right behind the literal "n".
func TestBehindThat(t *testing.T) {
	for text, want := range map[string]string{
		`a = "n";`:                                       "",
		`a = "n" "x" "y";`:                               "x",
		`a = "n" "x"? "y" "z";`:                          "xy",
		`a = "n" "x"? "y"?;`:                             "xy",
		`a = ("n" "x"? "y"*) "z";`:                       "xyz",
		`a = ("n" / "x") "z";`:                           "z",
		`a = "n"* "z";`:                                  "nz",
		`a = ("x" / "n")+ "z";`:                          "?z",
		`a = ("x" "n")+ "z";`:                            "?z",
		`a = "n"? "z";`:                                  "z",
		`a = l:"n" "z";`:                                 "z",
		`a = ~"n"~ "z";`:                                 "z",
		`a = (~"n"~)* "z";`:                              "nz",
		`a = (~"n"~ "y"?)+ "z";`:                         "nyz",
		`a = &"n" "z";`:                                  "",
		`a = !("n" "y"?) "z";`:                           "y",
		`a = "n" !"y" "z";`:                              "z",
		`a = "n" !"y";`:                                  "",
		`a = "n" (b / ~"z"~); b = "x";`:                  "xz",
		`a = b "x"; b = "n";`:                            "x",
		`a = b "x"; b = "n"; c = b "y";`:                 "xy",
		`a = b; b = c "x"?; c = "n"; d = a "y";`:         "xy",
		`a = "x" a "y" / "n";`:                           "y",
		`a = "n" b; b = ~c~; c = d; d = "x" / "y";`:      "?",
		`water = "n" "x"?; a = b "z"; b = ~"y"~;`:        "x",
		`a = &(b "x") "y"; b = "n";`:                     "x",
		`a = "n" b; b = &"x";`:                           "",
		`a = "n" b "y"; b = a / "x"?;`:                   "?y",
		`a = (b "q")*; b = "n" c; c = "x"? d; d = "y"*;`: "?q",
	} {
		g := join(t, text)
		n := slices.IndexFunc(g.Nodes, func(x api.Node) bool { return x.Text == "n" && x.Op == api.OpLit })
		l := Next(g)[n]
		if got := literals(g, l); !alike(got, want) || !slices.IsSorted(l) {
			t.Errorf("%s: %s", text, got)
		}
	}
}

// alike tells whether two texts have the same letters.
func alike(a, b string) bool {
	x, y := []byte(a), []byte(b)
	slices.Sort(x)
	slices.Sort(y)
	return string(x) == string(y)
}

// plain finds the same another way: base sets, and who hands on what comes behind it to whom.
func plain(g api.Grammar) [][]int {
	base, from := make([][]int, len(g.Nodes)), make([][]int, len(g.Nodes))
	nullable := empty.Nullable(g)
	for n, x := range g.Nodes {
		for i, k := range x.Kids {
			through := x.Op != api.OpAnd && x.Op != api.OpNot
			if x.Op == api.OpStar || x.Op == api.OpPlus {
				base[k] = append(base[k], lead.Lead(g, k)...)
			}
			for j := i + 1; x.Op == api.OpSeq && through && j < len(x.Kids); j++ {
				base[k] = append(base[k], lead.Lead(g, x.Kids[j])...)
				through = nullable[x.Kids[j]]
			}
			if through {
				from[k] = append(from[k], n)
			}
		}
		if x.Op == api.OpRef {
			b := empty.Body(g, n)
			from[b] = append(from[b], n)
		}
	}
	next := make([][]int, len(g.Nodes))
	for n := range g.Nodes {
		met := make([]bool, len(g.Nodes))
		var walk func(n int) []int
		walk = func(n int) []int {
			if met[n] {
				return nil
			}
			met[n] = true
			l := slices.Clone(base[n])
			for _, up := range from[n] {
				l = append(l, walk(up)...)
			}
			return l
		}
		l := walk(n)
		slices.Sort(l)
		next[n] = slices.Compact(l)
	}
	return next
}

func TestJustTheLeast(t *testing.T) {
	some := 0
	for i := range 400 {
		g, f := joint.Join(sample.Modules(rand.New(rand.NewSource(int64(i))).Intn), "r0")
		if f.Err != api.OK {
			continue
		}
		got, want := Next(g), plain(g)
		if len(got) != len(want) {
			t.Fatal("a list for each node")
		}
		for n := range got {
			if !slices.Equal(got[n], want[n]) {
				t.Fatalf("%d: behind %d: %v, not %v", i, n, got[n], want[n])
			}
			some += len(got[n])
		}
	}
	if some == 0 {
		t.Error("nothing came behind anything")
	}
}

func TestExample(t *testing.T) {
	g := join(t, `a = (~call~)*; call = "c" "(";`)
	if l := Next(g)[1]; g.Nodes[1].Op != api.OpSea || !slices.Equal(l, []int{g.Heads[1].Body}) {
		t.Errorf("behind the sea: %v", l)
	}
	if len(Next(api.Grammar{})) != 0 {
		t.Error("there are no nodes")
	}
}
