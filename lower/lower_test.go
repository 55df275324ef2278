package lower

import (
	"math/rand"
	"reflect"
	"testing"

	"eyot/alphabet"
	"eyot/api"
	"eyot/check"
	"eyot/empty"
	"eyot/first"
	"eyot/joint"
	"eyot/sample"
	"eyot/shore"
)

func join(t *testing.T, texts ...string) api.Grammar {
	t.Helper()
	g, f := sample.Join("main", texts...)
	if f.Err != api.OK {
		t.Fatalf("%s: %v", texts, f)
	}
	return g
}

func set(s string) api.Set {
	var x api.Set
	for i := range len(s) {
		x = alphabet.With(x, s[i])
	}
	return x
}

func TestNumbering(t *testing.T) {
	c, f := Lower(join(t, `module m; import n; water = "w"; main = (~n::isle~)* end?; end = l:"e"; gone = "g";`, `module n; isle = "ab";`))
	all := alphabet.Range(0, 255)
	want := []api.Ins{
		{Op: api.OpRef, Text: "main", Kids: []int{1}, First: all, Empty: true, Water: -1},
		{Op: api.OpSeq, Kids: []int{2, 8}, First: all, Empty: true, Water: -1},
		{Op: api.OpStar, Kids: []int{3}, First: all, Empty: true, Water: -1},
		{Op: api.OpSea, Kids: []int{4}, First: all, Next: []int{6, 5}, Water: 7},
		{Op: api.OpRef, Text: "isle", Kids: []int{5}, First: set("a"), Water: -1},
		{Op: api.OpLit, Text: "ab", First: set("a"), Water: -1},
		{Op: api.OpLit, Text: "e", First: set("e"), Water: -1},
		{Op: api.OpLit, Text: "w", First: set("w"), Water: -1},
		{Op: api.OpOpt, Kids: []int{9}, First: set("e"), Empty: true, Water: -1},
		{Op: api.OpRef, Text: "end", Kids: []int{10}, First: set("e"), Water: -1},
		{Op: api.OpLabel, Text: "l", Kids: []int{6}, First: set("e"), Water: -1},
	}
	if !reflect.DeepEqual(c.List, want) || f != (api.Fault{}) {
		t.Errorf("%v, %v", c.List, f)
	}
}

func TestOtherThings(t *testing.T) {
	c, f := Lower(join(t, `module m; main = [ab] . main / ~"x"~;`))
	want := []api.Ins{
		{Op: api.OpRef, Text: "main", Kids: []int{1}, First: alphabet.Range(0, 255), Water: -1},
		{Op: api.OpChoice, Kids: []int{2, 6}, First: alphabet.Range(0, 255), Water: -1},
		{Op: api.OpSeq, Kids: []int{3, 4, 5}, First: set("ab"), Water: -1},
		{Op: api.OpClass, Set: set("ab"), First: set("ab"), Water: -1},
		{Op: api.OpAny, First: alphabet.Range(0, 255), Water: -1},
		{Op: api.OpRef, Text: "main", Kids: []int{1}, First: alphabet.Range(0, 255), Water: -1},
		{Op: api.OpSea, Kids: []int{7}, First: alphabet.Range(0, 255), Water: -1},
		{Op: api.OpLit, Text: "x", First: set("x"), Water: -1},
	}
	if !reflect.DeepEqual(c.List, want) || f != (api.Fault{}) {
		t.Errorf("%v, %v", c.List, f)
	}
}

// TestFaults: of a grammar that may not be there is no code, even if what is wrong isn't needed.
func TestFaults(t *testing.T) {
	for text, want := range map[string]api.Fault{
		`main = "x"; b = ("y"?)*;`:         {Err: api.ErrEmpty, Rule: 1},
		`main = "x"; b = b;`:               {Err: api.ErrLeft, Rule: 1},
		`water = "x"?; main = main;`:       {Err: api.ErrEmpty, Rule: -1},
		`main = "x" b; b = c; c = b? "q";`: {Err: api.ErrLeft, Rule: 1},
	} {
		if c, f := Lower(join(t, "module m;"+text)); len(c.List) != 0 || f != want {
			t.Errorf("%s: %v", text, f)
		}
	}
	if c, f := Lower(api.Grammar{}); len(c.List) != 0 || f != (api.Fault{}) {
		t.Errorf("without a rule there is no code: %v", f)
	}
}

// walker goes through a code and its grammar side by side.
type walker struct {
	t     *testing.T
	g     api.Grammar
	c     api.Code
	next  [][]int
	sets  []api.Set
	empty []bool
	node  map[int]int // of each instruction that was met its node
	place map[int]int // of each node its instruction
}

// visit holds the instruction i, and all that it needs, against the node n.
func (w *walker) visit(i, n int) {
	if known, ok := w.place[n]; ok {
		if known != i {
			w.t.Fatalf("the node %d is at %d, and at %d", n, known, i)
		}
		return
	}
	if i != len(w.place)+1 {
		w.t.Fatalf("the node %d is at %d, but needed as the %dth", n, i, len(w.place)+1)
	}
	w.place[n], w.node[i] = i, n
	x, y := w.g.Nodes[n], w.c.List[i]
	text, kids := x.Text, x.Kids
	if x.Op == api.OpRef {
		text, kids = w.g.Heads[x.To].Name, []int{w.g.Heads[x.To].Body}
	}
	if y.Op != x.Op || y.Text != text || y.Set != x.Set || y.First != w.sets[n] || y.Empty != w.empty[n] || len(y.Kids) != len(kids) {
		w.t.Fatalf("the instruction %d: %v", i, y)
	}
	for k := range kids {
		w.visit(y.Kids[k], kids[k])
	}
	next, water := w.next[n], w.g.Waters[x.Module]
	if x.Op != api.OpSea {
		next, water = nil, -1
	}
	if len(y.Next) != len(next) || (water >= 0) != (y.Water >= 0) || water < 0 && y.Water != -1 {
		w.t.Fatalf("the instruction %d: %v", i, y)
	}
	for k := range next {
		w.visit(y.Next[k], next[k])
	}
	if water >= 0 {
		w.visit(y.Water, water)
	}
}

func TestJustWhatIsNeeded(t *testing.T) {
	codes := 0
	for i := range 600 {
		r := rand.New(rand.NewSource(int64(i)))
		g, f := joint.Join(sample.Modules(r.Intn), []string{"r0", "r1", "n::s0", "s1"}[r.Intn(4)])
		if f.Err != api.OK {
			continue
		}
		c, f := Lower(g)
		if f != check.Check(g) {
			t.Fatalf("%d: %v", i, f)
		}
		if f.Err != api.OK {
			continue
		}
		codes++
		w := &walker{t, g, c, shore.Next(g), first.First(g), empty.Nullable(g), map[int]int{}, map[int]int{}}
		head := g.Heads[g.Start]
		want := api.Ins{Op: api.OpRef, Text: head.Name, Kids: []int{1}, First: w.sets[head.Body], Empty: w.empty[head.Body], Water: -1}
		if !reflect.DeepEqual(c.List[0], want) {
			t.Fatalf("%d: the first one: %v", i, c.List[0])
		}
		w.visit(1, head.Body)
		if len(w.place)+1 != len(c.List) {
			t.Fatalf("%d: %d instructions, not %d", i, len(c.List), len(w.place)+1)
		}
	}
	if codes < 300 {
		t.Errorf("only %d codes", codes)
	}
}

func TestExample(t *testing.T) {
	c, f := Lower(join(t,
		`module m; import n; water = "#" (!"#" .)* "#"; main = (~call~)*; call = name:n::id "(" (!")" .)* ")";`,
		`module n; id = [a-z]+;`))
	if len(c.List) != 24 || f != (api.Fault{}) {
		t.Errorf("%d instructions, %v", len(c.List), f)
	}
}
