package check

import (
	"math/rand"
	"testing"

	"eyot/api"
	"eyot/calls"
	"eyot/empty"
	"eyot/joint"
	"eyot/sample"
	"eyot/shore"
)

func at(err api.Errno, module, rule int) api.Fault {
	return api.Fault{Err: err, Module: module, Rule: rule}
}

func TestCheck(t *testing.T) {
	for text, want := range map[string]api.Fault{
		`a = "x";`:                           {},
		`a = (~b~)*; b = "x";`:               {},
		`a = "x" a / "y";`:                   {},
		`water = "w"; a = ~"x"~;`:            {},
		`water = "w"*; a = "x";`:             at(api.ErrEmpty, 0, -1),
		`water = b; a = ("x"?)*; b = "x"?;`:  at(api.ErrEmpty, 0, -1),
		`water = "w"?; a = a;`:               at(api.ErrEmpty, 0, -1),
		`a = "x"; b = ("x"?)*; c = ~"y"?~;`:  at(api.ErrEmpty, 0, 1),
		`a = "x"; b = ("x"*)+;`:              at(api.ErrEmpty, 0, 1),
		`a = "x"; b = "z" / ~(!"y")~;`:       at(api.ErrEmpty, 0, 1),
		`a = (~call~ / "x"?)*; call = "c";`:  at(api.ErrEmpty, 0, 0),
		`a = ("x"? "y")*;`:                   {},
		`a = ("x"?)?;`:                       {},
		`a = !("x"?);`:                       {},
		`a = a; b = (b?)*;`:                  at(api.ErrEmpty, 0, 1),
		`a = b; b = !"y" a;`:                 at(api.ErrLeft, 0, 0),
		`a = "x" b; b = c; c = b "y";`:       at(api.ErrLeft, 0, 1),
		`a = ~"x"~ b; b = a / "y";`:          {},
		`water = ~"x"~; a = "y";`:            at(api.ErrLeft, 0, -1),
		`a = ~"x"~ (&a "y");`:                at(api.ErrLeft, 0, 0),
		`a = ~"x"~ b?; b = "z"; c = &c "y";`: at(api.ErrLeft, 0, 2),
		`a = "x"; call = call "x";`:          at(api.ErrLeft, 0, 1),
	} {
		g, f := sample.Join("a", "module m;"+text)
		if f.Err != api.OK {
			t.Fatalf("%s: %v", text, f)
		}
		if got := Check(g); got != want {
			t.Errorf("%s: %v", text, got)
		}
	}
}

func TestOfSeveralModules(t *testing.T) {
	g, _ := sample.Join("a", `module m; import n; a = b;`, `module n; water = "w"; b = "x"; c = ("x"?)+;`)
	if got := Check(g); got != at(api.ErrEmpty, 1, 1) {
		t.Errorf("%v", got)
	}
	g, _ = sample.Join("a", `module m; import n; a = "y" b;`, `module n; import m; b = "x"? d; d = b;`)
	if got := Check(g); got != at(api.ErrLeft, 1, 0) {
		t.Errorf("%v", got)
	}
	if got := Check(api.Grammar{}); got != (api.Fault{}) {
		t.Errorf("no nodes: %v", got)
	}
}

// TestWellFormed: in a grammar that may be nothing is empty that may not be, and nothing calls itself; otherwise there is a first place of that.
func TestWellFormed(t *testing.T) {
	counts := map[api.Errno]int{}
	for i := range 800 {
		g, f := joint.Join(sample.Modules(rand.New(rand.NewSource(int64(i))).Intn), "r0")
		if f.Err != api.OK {
			continue
		}
		nullable := empty.Nullable(g)
		want := api.Fault{}
		if n := calls.Cycle(g, shore.Next(g)); n >= 0 {
			want = at(api.ErrLeft, g.Nodes[n].Module, g.Nodes[n].Rule)
		}
		for n := len(g.Nodes) - 1; n >= 0; n-- {
			x := g.Nodes[n]
			bad := (x.Op == api.OpStar || x.Op == api.OpPlus || x.Op == api.OpSea) && nullable[x.Kids[0]]
			for _, water := range g.Waters {
				bad = bad || water == n && nullable[n]
			}
			if bad {
				want = at(api.ErrEmpty, x.Module, x.Rule)
			}
		}
		if got := Check(g); got != want {
			t.Errorf("%d: %v, not %v", i, got, want)
		}
		counts[want.Err]++
	}
	if counts[api.OK] < 20 || counts[api.ErrLeft] < 5 || counts[api.ErrEmpty] < 20 {
		t.Errorf("too few of one kind: %v", counts)
	}
	t.Log(counts)
}
