package joint

import (
	"reflect"
	"strconv"
	"strings"
	"testing"

	"eyot/api"
	"eyot/dialect"
	"eyot/syntax"
)

const mText = `module m; import n; water = "#" (!"#" .)* "#"; main = (~call~)*; call = name:n::id "(" (!")" .)* ")";`
const nText = `module n; id = [a-z]+;`

func modules(t *testing.T, l ...string) []api.Module {
	t.Helper()
	var all []api.Module
	for _, s := range l {
		m, f := dialect.Parse(s)
		if f != (api.Fault{}) {
			t.Fatalf("%s: %v", s, f)
		}
		all = append(all, m)
	}
	return all
}

// back puts an expression together out of its nodes.
func back(g api.Grammar, n int) api.Expr {
	x := g.Nodes[n]
	e := api.Expr{Op: x.Op, Text: x.Text, Set: x.Set}
	for _, kid := range x.Kids {
		e.Kids = append(e.Kids, back(g, kid))
	}
	return e
}

func TestJoin(t *testing.T) {
	l := modules(t, mText, nText, `module o; import m; water = x; x = main / x2; x2 = .;`)
	g, f := Join(l, "main")
	if f != (api.Fault{}) {
		t.Fatal(f)
	}
	if !reflect.DeepEqual(g.Modules, []string{"m", "n", "o"}) || g.Start != 0 || len(g.Heads) != 5 || g.Waters[0] != 0 || g.Waters[1] != -1 || len(g.Waters) != 3 {
		t.Errorf("%v, %v, %d", g.Modules, g.Waters, g.Start)
	}
	next, head := 0, 0
	for i, m := range l {
		if m.Wet {
			if g.Waters[i] != next || !syntax.Same(back(g, next), m.Water) {
				t.Errorf("the water of %d", i)
			}
			next = holds(t, g, next, i, -1, syntax.Size(m.Water))
		}
		for k, r := range m.Rules {
			if h := g.Heads[head]; h != (api.Head{Module: i, Name: r.Name, Body: next}) || !syntax.Same(back(g, next), r.Body) {
				t.Errorf("the rule %d of %d: %v", k, i, h)
			}
			next = holds(t, g, next, i, k, syntax.Size(r.Body))
			head++
		}
	}
	if next != len(g.Nodes) {
		t.Errorf("%d nodes, not %d", len(g.Nodes), next)
	}
}

// holds tells whether so many nodes from n on are of that module and rule, each ahead of what is within it.
func holds(t *testing.T, g api.Grammar, n, module, rule, size int) int {
	t.Helper()
	want := n + 1
	var walk func(k int)
	walk = func(k int) {
		for _, kid := range g.Nodes[k].Kids {
			if kid != want {
				t.Errorf("the node %d stands at %d", want, kid)
			}
			want++
			walk(kid)
		}
	}
	walk(n)
	for k := n; k < n+size; k++ {
		x := g.Nodes[k]
		if x.Module != module || x.Rule != rule || (x.Op == api.OpRef) != (x.To >= 0) {
			t.Errorf("the node %d: %v", k, x)
		}
	}
	return n + size
}

func TestReferences(t *testing.T) {
	l := modules(t, `module m; import n; a = a b n::b m::b c;  b = .;`, `module n; b = b; c = b;`)
	g, f := Join(l, "a")
	if f != (api.Fault{}) {
		t.Fatal(f)
	}
	var to []int
	for _, x := range g.Nodes {
		to = append(to, x.To)
	}
	if want := []int{-1, 0, 1, 2, 1, 3, -1, 2, 2}; !reflect.DeepEqual(to, want) {
		t.Errorf("%v", to)
	}
	if g.Nodes[3].Text != "n::b" {
		t.Errorf("the text stays: %q", g.Nodes[3].Text)
	}
}

func TestStart(t *testing.T) {
	l := modules(t, `module m; import n; a = .; z = .;`, `module n; a = .; b = .;`, `module o; c = .; a = .;`)
	for start, want := range map[string]int{"a": 0, "z": 1, "b": 3, "n::a": 2, "n::b": 3, "o::c": 4, "o::a": 5, "m::a": 0} {
		if g, f := Join(l, start); g.Start != want || f != (api.Fault{}) {
			t.Errorf("%s: %d, %v", start, g.Start, f)
		}
	}
	none := api.Fault{Err: api.ErrName, Module: -1, Rule: -1}
	for _, start := range []string{"", "c", "m::b", "o::b", "p::a", "::a", "m::", "water", "a::b::c", "a ", "water::a"} {
		if g, f := Join(l, start); !reflect.DeepEqual(g, api.Grammar{}) || f != none {
			t.Errorf("%s: %v", start, f)
		}
	}
	if _, f := Join(nil, "a"); f != none {
		t.Errorf("no modules: %v", f)
	}
	if _, f := Join(modules(t, "module m;"), "a"); f != none {
		t.Errorf("no rules: %v", f)
	}
}

// wide writes a module with so many rules, and so many nodes in the last one.
func wide(name string, rules, nodes int) string {
	s := "module " + name + ";"
	for i := range rules {
		s += " r" + strconv.Itoa(i) + " = ."
		if i == rules-1 {
			s += strings.Repeat(" .", nodes-2)
		}
		s += ";"
	}
	return s
}

func TestFaults(t *testing.T) {
	empty := func(name string) string { return "module " + name + ";" }
	bad := api.Module{Name: "bad", Rules: []api.Rule{{Name: "a"}}}
	dot := api.Expr{Op: api.OpAny}
	for i, c := range []struct {
		l     []api.Module
		fault api.Fault
	}{
		{modules(t, wide("a", 1, 2), empty("b"), empty("c"), empty("d"), empty("e")), api.Fault{Err: api.ErrLarge, Module: 4, Rule: -1}},
		{modules(t, wide("a", 1, 2), empty("b"), empty("c"), empty("a"), empty("e")), api.Fault{Err: api.ErrTwice, Module: 3, Rule: -1}},
		{append(modules(t, wide("a", 1, 2)), bad, bad), api.Fault{Err: api.ErrArg, Module: 1, Rule: -1}},
		{append(modules(t, wide("a", 1, 2)), api.Module{Name: "b", Water: dot}), api.Fault{Err: api.ErrArg, Module: 1, Rule: -1}},
		{append(modules(t, "module a; import q; a = b;"), bad), api.Fault{Err: api.ErrArg, Module: 1, Rule: -1}},
		{append(modules(t, empty("a"), empty("a")), bad), api.Fault{Err: api.ErrTwice, Module: 1, Rule: -1}},
		{modules(t, wide("a", 20, 2), wide("b", 5, 2), empty("a")), api.Fault{Err: api.ErrLarge, Module: 1, Rule: -1}},
		{modules(t, wide("a", 24, 2), wide("a", 1, 2)), api.Fault{Err: api.ErrTwice, Module: 1, Rule: -1}},
		{modules(t, "module a; import b; a = q;", "module b; import c; import a;"), api.Fault{Err: api.ErrName, Module: 1, Rule: -1}},
		{modules(t, "module a; import b; a = q;", "module b; a = q;"), api.Fault{Err: api.ErrName, Module: 0, Rule: 0}},
		{modules(t, "module a; import b; a = b; b = .;", "module b; a = a; b = a a::b;"), api.Fault{Err: api.ErrName, Module: 1, Rule: 1}},
		{modules(t, "module a; water = q; a = q;"), api.Fault{Err: api.ErrName, Module: 0, Rule: -1}},
		{modules(t, wide("a", 2, 160)), api.Fault{Err: api.ErrLarge, Module: 0, Rule: 1}},
		{modules(t, wide("a", 1, 159), "module b; water = . .;"), api.Fault{Err: api.ErrLarge, Module: 1, Rule: -1}},
		{modules(t, wide("a", 1, 160), "module b; water = q; q = .;"), api.Fault{Err: api.ErrLarge, Module: 1, Rule: -1}},
		{modules(t, wide("a", 1, 160), "module b; x = q;"), api.Fault{Err: api.ErrLarge, Module: 1, Rule: 0}},
	} {
		if g, f := Join(c.l, "no such rule"); !reflect.DeepEqual(g, api.Grammar{}) || f != c.fault {
			t.Errorf("%d: %v, not %v", i, f, c.fault)
		}
	}
}

func TestJustAsManyAsMayBe(t *testing.T) {
	g, f := Join(modules(t, wide("a", 12, 130), wide("b", 12, 8), "module c;", "module d;"), "b::r11")
	if f != (api.Fault{}) || len(g.Heads) != 24 || g.Start != 23 {
		t.Errorf("%d rules, from %d: %v", len(g.Heads), g.Start, f)
	}
	g, f = Join(modules(t, wide("a", 1, 160)), "r0")
	if f != (api.Fault{}) || len(g.Nodes) != 160 {
		t.Errorf("%d nodes: %v", len(g.Nodes), f)
	}
}

func TestModulesStayAsTheyWere(t *testing.T) {
	l := modules(t, mText, nText)
	g, _ := Join(l, "main")
	for i := range g.Nodes {
		for k := range g.Nodes[i].Kids {
			g.Nodes[i].Kids[k] = -7
		}
	}
	if !reflect.DeepEqual(l, modules(t, mText, nText)) {
		t.Error("a module was changed")
	}
}
