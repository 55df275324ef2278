package empty

import (
	"math/rand"
	"testing"

	"eyot/api"
	"eyot/joint"
	"eyot/sample"
)

// rest are the rules that the examples refer to: of a letter, of what may be empty, and of what can't fail.
const rest = " full = \"x\"; void = full?; sure = full*; "

func join(t *testing.T, body string) api.Grammar {
	t.Helper()
	g, f := sample.Join("a", "module m; a = "+body+";"+rest)
	if f.Err != api.OK {
		t.Fatalf("%s: %v", body, f)
	}
	return g
}

// TestEachOp: of a body whether it may take nothing, and whether it may fail.
func TestEachOp(t *testing.T) {
	for body, want := range map[string][2]bool{
		`"x"`:           {false, true},
		`[a-z]`:         {false, true},
		`.`:             {false, true},
		`full`:          {false, true},
		`void`:          {true, false},
		`full void`:     {false, true},
		`void sure`:     {true, false},
		`void &full`:    {true, true},
		`full full`:     {false, true},
		`sure full?`:    {true, false},
		`full / void`:   {true, false},
		`full / full`:   {false, true},
		`void / sure`:   {true, false},
		`full*`:         {true, false},
		`full+`:         {false, true},
		`void+`:         {true, false},
		`full?`:         {true, false},
		`(&full)?`:      {true, false},
		`&full`:         {true, true},
		`&void`:         {true, false},
		`!full`:         {true, true},
		`!void`:         {true, true},
		`!sure`:         {true, true},
		`x:full`:        {false, true},
		`x:void`:        {true, false},
		`x:(&full)`:     {true, true},
		`~full~`:        {false, true},
		`~void~`:        {false, true},
		`(~full~)*`:     {true, false},
		`a`:             {false, false}, // the least marks
		`"x" a`:         {false, true},
		`a "x"`:         {false, true},
		`a / void`:      {true, false},
		`a / full`:      {false, false},
		`a / &full`:     {true, false},
		`a void`:        {false, false},
		`void a / a`:    {false, false},
		`x:a`:           {false, false},
		`a+`:            {false, false},
		`&a`:            {true, false},
		`!a`:            {true, true},
		`full / a void`: {false, false},
	} {
		g := join(t, body)
		n := g.Heads[0].Body
		if got := [2]bool{Nullable(g)[n], Fails(g)[n]}; got != want {
			t.Errorf("%s: %v", body, got)
		}
	}
}

func TestRulesOfOneAnother(t *testing.T) {
	g, _ := sample.Join("a", `module m; import n; a = b; b = c / a; c = b b;`, `module n; d = "x"? m::a;`)
	for i, marks := range [][]bool{Nullable(g), Fails(g)} {
		for n, x := range g.Nodes {
			if want := i == 0 && x.Op == api.OpOpt || i == 1 && x.Op == api.OpLit; marks[n] != want {
				t.Errorf("%d: the node %d: %v", i, n, marks[n])
			}
		}
	}
}

func TestBody(t *testing.T) {
	g, _ := sample.Join("a", `module m; import n; water = b; a = b d "x"; b = .;`, `module n; d = d;`)
	for n, x := range g.Nodes {
		want := n
		if x.Op == api.OpRef {
			want = g.Heads[x.To].Body
		}
		if got := Body(g, n); got != want {
			t.Errorf("Body of %d: %d", n, got)
		}
	}
	if Body(g, 0) != g.Heads[1].Body || Body(g, g.Heads[2].Body) != g.Heads[2].Body {
		t.Error("references lead to bodies")
	}
}

// TestByTheRules: marks are just those that the rules tell of the others.
func TestByTheRules(t *testing.T) {
	for i := range 300 {
		g, f := joint.Join(sample.Modules(rand.New(rand.NewSource(int64(i))).Intn), "r0")
		if f.Err != api.OK {
			continue
		}
		nullable, may := Nullable(g), Fails(g)
		if len(nullable) != len(g.Nodes) || len(may) != len(g.Nodes) {
			t.Fatal("a mark for each node")
		}
		for n, x := range g.Nodes {
			none, some, noneFail, someFail := true, false, true, false
			for _, k := range x.Kids {
				none, some = none && nullable[k], some || nullable[k]
				noneFail, someFail = noneFail && may[k], someFail || may[k]
			}
			body := Body(g, n)
			want := map[int][2]bool{
				api.OpLit: {false, true}, api.OpClass: {false, true}, api.OpAny: {false, true}, api.OpSea: {false, true},
				api.OpSeq: {none, someFail}, api.OpChoice: {some, noneFail}, api.OpStar: {true, false}, api.OpPlus: {none, noneFail},
				api.OpOpt: {true, false}, api.OpAnd: {true, noneFail}, api.OpNot: {true, true}, api.OpLabel: {none, noneFail},
				api.OpRef: {nullable[body], may[body]},
			}[x.Op]
			if got := [2]bool{nullable[n], may[n]}; got != want {
				t.Errorf("%d: the node %d: %v", i, n, got)
			}
		}
	}
}

func TestNoNodes(t *testing.T) {
	if len(Nullable(api.Grammar{})) != 0 || len(Fails(api.Grammar{})) != 0 {
		t.Error("no nodes, no marks")
	}
}
