package machine

import (
	"math"
	"math/rand"
	"reflect"
	"strings"
	"testing"
	"time"

	"eyot/alphabet"
	"eyot/api"
	"eyot/joint"
	"eyot/lower"
	"eyot/sample"
)

var lots = api.Limits{Memories: math.MaxInt, Steps: math.MaxInt, Frames: math.MaxInt}

func code(t *testing.T, texts ...string) api.Code {
	t.Helper()
	g, f := sample.Join("a", texts...)
	if f.Err != api.OK {
		t.Fatalf("%s: %v", texts, f)
	}
	c, f := lower.Lower(g)
	if f.Err != api.OK {
		t.Fatalf("%s: %v", texts, f)
	}
	return c
}

// plain does what the chapter says, word by word, by recursion, and keeps nothing.
type plain struct {
	c     api.Code
	input string
	work  int
}

// result is what plain finds: with the tree as nodes whose Up counts from the beginning of the part.
type result struct {
	ok       bool
	end, far int
	part     []api.Leaf
}

// in puts a part within a new node.
func in(x api.Leaf, parts ...[]api.Leaf) []api.Leaf {
	x.Up = -1
	l := []api.Leaf{x}
	return beside(l, parts, 0)
}

// beside puts parts behind l; what was in none is in the node up.
func beside(l []api.Leaf, parts [][]api.Leaf, up int) []api.Leaf {
	for _, part := range parts {
		ahead := len(l)
		for _, y := range part {
			if y.Up < 0 {
				y.Up = up
			} else {
				y.Up += ahead
			}
			l = append(l, y)
		}
	}
	return l
}

func (p *plain) run(i, at int) result {
	p.work++
	x := p.c.List[i]
	no := result{far: at}
	text := func(end int) result {
		return result{true, end, -1, []api.Leaf{{Kind: api.KindText, From: at, To: end, Up: -1}}}
	}
	switch x.Op {
	case api.OpLit:
		if strings.HasPrefix(p.input[at:], x.Text) {
			return text(at + len(x.Text))
		}
		return no
	case api.OpClass:
		if at < len(p.input) && alphabet.Has(x.Set, p.input[at]) {
			return text(at + 1)
		}
		return no
	case api.OpAny:
		if at < len(p.input) {
			return text(at + 1)
		}
		return no
	case api.OpAnd, api.OpNot:
		if p.run(x.Kids[0], at).ok == (x.Op == api.OpAnd) {
			return result{true, at, -1, nil}
		}
		return no
	case api.OpRef, api.OpLabel:
		kind := api.KindRule
		if x.Op == api.OpLabel {
			kind = api.KindLabel
		}
		r := p.run(x.Kids[0], at)
		if r.ok {
			r.part = in(api.Leaf{Kind: kind, Name: x.Text, From: at, To: r.end}, r.part)
		}
		return r
	case api.OpSea:
		return p.sea(x, at)
	}
	return p.kids(x, at)
}

func (p *plain) kids(x api.Ins, at int) result {
	all := result{ok: true, end: at, far: -1}
	switch x.Op {
	case api.OpSeq:
		for _, k := range x.Kids {
			r := p.run(k, all.end)
			all.far = max(all.far, r.far)
			if !r.ok {
				return result{far: all.far}
			}
			all.end, all.part = r.end, beside(all.part, [][]api.Leaf{r.part}, -1)
		}
		return all
	case api.OpChoice, api.OpOpt:
		for _, k := range x.Kids {
			r := p.run(k, at)
			all.far = max(all.far, r.far)
			if r.ok {
				all.end, all.part = r.end, r.part
				return all
			}
		}
		all.ok = x.Op == api.OpOpt
		if !all.ok {
			all.end = 0
		}
		return all
	}
	for first := true; ; first = false {
		r := p.run(x.Kids[0], all.end)
		all.far = max(all.far, r.far)
		if !r.ok && first && x.Op == api.OpPlus {
			return result{far: all.far}
		}
		if !r.ok {
			return all
		}
		all.end, all.part = r.end, beside(all.part, [][]api.Leaf{r.part}, -1)
	}
}

// shore tells whether there is the end, or a shore.
func (p *plain) shore(x api.Ins, at int) bool {
	if at == len(p.input) {
		return true
	}
	for _, k := range x.Next {
		if r := p.run(k, at); r.ok && r.end > at {
			return true
		}
	}
	return false
}

func (p *plain) step(x api.Ins, at int) int {
	if x.Water >= 0 {
		if r := p.run(x.Water, at); r.ok && r.end > at {
			return r.end
		}
	}
	return at + 1
}

func (p *plain) sea(x api.Ins, at int) result {
	pos := at
	isle := p.run(x.Kids[0], pos)
	for !isle.ok {
		if p.shore(x, pos) {
			return result{far: pos}
		}
		pos = p.step(x, pos)
		isle = p.run(x.Kids[0], pos)
	}
	end := isle.end
	for !p.shore(x, end) {
		end = p.step(x, end)
	}
	var ahead, behind []api.Leaf
	if at < pos {
		ahead = []api.Leaf{{Kind: api.KindWater, From: at, To: pos, Up: -1}}
	}
	if isle.end < end {
		behind = []api.Leaf{{Kind: api.KindWater, From: isle.end, To: end, Up: -1}}
	}
	return result{true, end, isle.far, in(api.Leaf{Kind: api.KindSea, From: at, To: end}, ahead, isle.part, behind)}
}

// same tells whether r is what p finds.
func (p *plain) same(r api.Result) bool {
	want := p.run(0, 0)
	if !want.ok {
		return r.Err == api.ErrFail && r.End == 0 && r.Far == want.far && len(r.Tree) == 0
	}
	return r.Err == api.OK && r.End == want.end && r.Far == want.far && reflect.DeepEqual(r.Tree, want.part)
}

func leaf(kind int, name string, from, to, up int) api.Leaf {
	return api.Leaf{Kind: kind, Name: name, From: from, To: to, Up: up}
}

// TestEachOp: of a body and an input the end (-1: it fails), and how far it failed.
func TestEachOp(t *testing.T) {
	for _, c := range []struct {
		body, input string
		end, far    int
	}{
		{`"ab"`, "abc", 2, -1}, {`"ab"`, "a", -1, 0}, {`"ab"`, "", -1, 0}, {`[a-c]`, "b", 1, -1}, {`[a-c]`, "d", -1, 0}, {`[a-c]`, "", -1, 0}, {`.`, "\xff", 1, -1}, {`.`, "", -1, 0},
		{`"a" "b"`, "ab", 2, -1}, {`"a" "b"`, "ac", -1, 1}, {`"a" "b"`, "b", -1, 0}, {`"a"* "b"`, "aab", 3, 2}, {`"a"* "b"`, "aac", -1, 2},
		{`"a" / "b"`, "a", 1, -1}, {`"a" / "b"`, "b", 1, 0}, {`"a" / "b"`, "c", -1, 0}, {`"ab" "c" / "a"`, "abd", 1, 2}, {`"a" / "ab"`, "ab", 1, -1},
		{`"a"*`, "aab", 2, 2}, {`"a"*`, "b", 0, 0}, {`"a"*`, "", 0, 0}, {`("a" "b")*`, "ababac", 4, 5}, {`"a"+`, "aa", 2, 2}, {`"a"+`, "b", -1, 0}, {`("a" "b")+`, "ac", -1, 1},
		{`"a"?`, "a", 1, -1}, {`"a"?`, "b", 0, 0}, {`("a" "b")?`, "ac", 0, 1},
		{`&("a" "b")`, "ab", 0, -1}, {`&("a" "b")`, "ac", -1, 0}, {`!("a" "b")`, "ab", -1, 0}, {`!("a" "b")`, "ac", 0, -1}, {`&"a" .`, "ab", 1, -1}, {`!"a"`, "", 0, -1},
		{`b`, "b", 1, -1}, {`b`, "c", -1, 0}, {`l:("a" "b")`, "ac", -1, 1}, {`l:"a"*`, "aa", 2, 2},
		{`~"i"~`, "xxiyy", 5, -1}, {`~"i"~`, "i", 1, -1}, {`~"i"~`, "xxx", -1, 3}, {`~"i"~`, "", -1, 0}, {`~"i"~ "s"`, "xisi", 3, -1}, {`~"i"~ "s"`, "xsi", -1, 1}, {`~"i"~ "s"`, "xix", -1, 3},
		{`~("i" "j"?)~`, "xiy", 3, 2}, {`~"i"~ "s"?`, "sis", -1, 0}, {`~("i" / "s")~ "s"`, "sss", 2, 0}, {`(~"i"~)*`, "xixix", 5, 5}, {`(~"i"~)+`, "xx", -1, 2},
		{`~"i"~ ("s"? "t"?)`, "xixt", 4, 3}, {`~"i"~ ("s"? "t"?)`, "xsit", -1, 1}, {`~"i"~ ("s"? "t"?)`, "i", 1, 1}, {`~"i"~ &"s"`, "xis", -1, 3}, {`~"i"~ !"s"`, "xis", 3, -1}, {`~"i"~ (&"s")? "t"`, "xist", 4, 3},
	} {
		r := Run(code(t, "module m; a = "+c.body+"; b = \"b\";"), c.input, lots)
		want := api.Result{Err: api.OK, End: c.end, Far: c.far}
		if c.end < 0 {
			want = api.Result{Err: api.ErrFail, Far: c.far}
		}
		if r.Err != want.Err || r.End != want.End || r.Far != want.Far || (len(r.Tree) == 0) != (c.end < 0) || r.Steps < 1 || r.Frames < 1 {
			t.Errorf("%s of %q: %v", c.body, c.input, r)
		}
	}
}

func TestWater(t *testing.T) {
	m := `module m; water = "#" (!"#" .)* "#" / n; a = ~"i"~ "s"; n = "n" "n"?; `
	for _, c := range []struct {
		input    string
		end, far int
	}{
		{"#i#is", 5, -1}, {"#s#is", 5, -1}, {"#iis", 4, -1}, {"##is", 4, -1}, {"yis", 3, -1}, {"i#s#s", 5, -1}, {"i#s", 3, -1}, {"nnnis", 5, -1}, {"x#i#s", -1, 4},
	} {
		r := Run(code(t, m), c.input, lots)
		if r.End != max(c.end, 0) || r.Far != c.far || (r.Err == api.OK) != (c.end > 0) {
			t.Errorf("%q: %v", c.input, r)
		}
	}
}

const call = `module m; import n; water = "#" (!"#" .)* "#"; a = (~call~)*; call = name:n::id "(" (!")" .)* ")";`

func TestTree(t *testing.T) {
	r := Run(code(t, call, `module n; id = [a-z]+;`), "x #f(a)# foo(b) y", lots)
	want := []api.Leaf{
		leaf(api.KindRule, "a", 0, 17, -1), leaf(api.KindSea, "", 0, 17, 0), leaf(api.KindWater, "", 0, 9, 1),
		leaf(api.KindRule, "call", 9, 15, 1), leaf(api.KindLabel, "name", 9, 12, 3), leaf(api.KindRule, "id", 9, 12, 4),
		leaf(api.KindText, "", 9, 10, 5), leaf(api.KindText, "", 10, 11, 5), leaf(api.KindText, "", 11, 12, 5),
		leaf(api.KindText, "", 12, 13, 3), leaf(api.KindText, "", 13, 14, 3), leaf(api.KindText, "", 14, 15, 3), leaf(api.KindWater, "", 15, 17, 1),
	}
	if !reflect.DeepEqual(r.Tree, want) || r.End != 17 || r.Err != api.OK {
		t.Errorf("%v", r)
	}
	r = Run(code(t, `module m; a = ("x" y:b / &b "x" (!b) b?)+; b = "y"? "z";`), "xyzx", lots)
	want = []api.Leaf{
		leaf(api.KindRule, "a", 0, 3, -1), leaf(api.KindText, "", 0, 1, 0), leaf(api.KindLabel, "y", 1, 3, 0), leaf(api.KindRule, "b", 1, 3, 2),
		leaf(api.KindText, "", 1, 2, 3), leaf(api.KindText, "", 2, 3, 3),
	}
	if !reflect.DeepEqual(r.Tree, want) {
		t.Errorf("%v", r)
	}
	r = Run(code(t, `module m; a = b b c; b = "y"?; c = ~"i"~;`), "i", lots)
	want = []api.Leaf{
		leaf(api.KindRule, "a", 0, 1, -1), leaf(api.KindRule, "b", 0, 0, 0), leaf(api.KindRule, "b", 0, 0, 0), leaf(api.KindRule, "c", 0, 1, 0),
		leaf(api.KindSea, "", 0, 1, 3), leaf(api.KindText, "", 0, 1, 4),
	}
	if !reflect.DeepEqual(r.Tree, want) {
		t.Errorf("%v", r)
	}
}

// small makes an input of few bytes that the samples know.
func small(r *rand.Rand) string {
	b := make([]byte, r.Intn(9))
	for i := range b {
		b[i] = "aaabbcc\x00"[r.Intn(8)]
	}
	return string(b)
}

func some(t *testing.T, i int) (api.Code, *rand.Rand, bool) {
	t.Helper()
	r := rand.New(rand.NewSource(int64(i)))
	g, f := joint.Join(sample.Modules(r.Intn), "r0")
	if f.Err != api.OK {
		return api.Code{}, r, false
	}
	c, f := lower.Lower(g)
	return c, r, f.Err == api.OK
}

// TestWhatItMeans holds the machine against the words of the chapter, with more and fewer memories.
func TestWhatItMeans(t *testing.T) {
	met := map[api.Errno]int{}
	for i := range 1500 {
		c, r, ok := some(t, i)
		if !ok {
			continue
		}
		for range 8 {
			p := &plain{c: c, input: small(r)}
			product := len(c.List) * (len(p.input) + 1)
			for _, most := range []int{math.MaxInt, product, 0, -1, 1, 2, 7, 30} {
				got := Run(c, p.input, api.Limits{Memories: most, Steps: math.MaxInt, Frames: math.MaxInt})
				if !p.same(got) {
					t.Fatalf("%d: %q, %d memories: %v, not %v", i, p.input, most, got, p.run(0, 0))
				}
				if got.Steps < 1 || got.Frames < 1 || most >= product && (got.Steps > api.MaxCost*product*product || got.Frames > product+1) {
					t.Fatalf("%d: %q: %d steps, %d frames", i, p.input, got.Steps, got.Frames)
				}
				met[got.Err]++
			}
		}
	}
	if met[api.OK] < 5000 || met[api.ErrFail] < 5000 {
		t.Errorf("too few of one kind: %v", met)
	}
}

// TestLimits: a limit is met, or it comes to the same.
func TestLimits(t *testing.T) {
	for i := range 150 {
		c, r, ok := some(t, i)
		if !ok {
			continue
		}
		input := small(r)
		for _, most := range []int{0, 3, math.MaxInt} {
			l := api.Limits{Memories: most, Steps: math.MaxInt, Frames: math.MaxInt}
			full := Run(c, input, l)
			for n := max(0, full.Steps-30); n < full.Steps+2; n++ {
				holds(t, c, input, api.Limits{Memories: most, Steps: n, Frames: math.MaxInt}, full)
			}
			for n := range full.Frames + 2 {
				holds(t, c, input, api.Limits{Memories: most, Steps: math.MaxInt, Frames: n}, full)
			}
			holds(t, c, input, api.Limits{Memories: most, Steps: full.Steps, Frames: full.Frames}, full)
		}
	}
}

// holds tells whether with those limits it comes to what it does without, or a limit is met where one must be.
func holds(t *testing.T, c api.Code, input string, l api.Limits, full api.Result) {
	t.Helper()
	got := Run(c, input, l)
	if l.Steps >= full.Steps && l.Frames >= full.Frames {
		if !reflect.DeepEqual(got, full) {
			t.Fatalf("%v: %v, not %v", l, got, full)
		}
		return
	}
	if got.Err != api.ErrLimit || got.End != 0 || got.Far != -1 || len(got.Tree) != 0 || got.Steps > l.Steps || got.Frames > l.Frames {
		t.Fatalf("%v: %v; it needs %d, %d", l, got, full.Steps, full.Frames)
	}
}

func TestNoLimitsAtAll(t *testing.T) {
	c := code(t, `module m; a = "x"*;`)
	want := api.Result{Err: api.ErrLimit, Far: -1}
	for _, l := range []api.Limits{{}, {Steps: 100}, {Frames: 100}, {Steps: -1, Frames: 9}, {Steps: 9, Frames: math.MinInt}, {Memories: 9, Steps: math.MinInt, Frames: 9}} {
		if got := Run(c, "xx", l); !reflect.DeepEqual(got, want) {
			t.Errorf("%v: %v", l, got)
		}
	}
	if got := Run(c, strings.Repeat("x", 2001), api.Limits{}); !reflect.DeepEqual(got, api.Result{Err: api.ErrLarge, Far: -1}) {
		t.Errorf("2001 bytes: %v", got)
	}
	if got := Run(c, strings.Repeat("x", 2000), lots); got.End != 2000 || got.Err != api.OK {
		t.Errorf("2000 bytes: %v", got)
	}
	if got := Run(c, strings.Repeat("x", 2001), lots); got.Err != api.ErrLarge {
		t.Errorf("2001 bytes: %v", got)
	}
	if got := Run(api.Code{}, "", lots); got.Err != api.ErrFail {
		t.Errorf("no code: %v", got)
	}
}

// TestLongInputs: what leads as deep as an input is long, and what would be told again and again without memories.
func TestLongInputs(t *testing.T) {
	begun := time.Now()
	for _, c := range []struct{ text, input string }{
		{`module m; a = "x" a / "x";`, strings.Repeat("x", 2000)},
		{`module m; a = "(" a ")" / "(" a "]" / "x";`, strings.Repeat("(", 999) + "x" + strings.Repeat("]", 1000)},
		{`module m; a = (~b~)* !.; b = l:[a-z]+ "("; `, strings.Repeat("abcdefgh", 200) + "x( "},
		{`module m; a = ~(~"q"~ "p")~ / .*;`, strings.Repeat("q", 2000)},
		{`module m; a = ~(~(~"r"~ "q")~ "p")~ / .*;`, strings.Repeat("rq", 1000)},
		{`module m; a = b* ; b = c "y" / c "z" / c "w"; c = d "y" / d "z" / d; d = e "y" / e "z" / e; e = "x" / "(" b ")";`, strings.Repeat("(", 200) + "xw" + strings.Repeat(")w", 200)},
	} {
		cd := code(t, c.text)
		product := len(cd.List) * (len(c.input) + 1)
		r := Run(cd, c.input, api.Limits{Memories: product, Steps: math.MaxInt, Frames: product + 1})
		if r.Err != api.OK || r.End == 0 || r.Steps > product || len(r.Tree) == 0 {
			t.Errorf("%s: %v, %d of %d, %d steps", c.text, r.Err, r.End, len(c.input), r.Steps)
		}
		t.Log(c.text, len(c.input), r.End, r.Steps, r.Frames, len(r.Tree), time.Since(begun))
	}
}

// TestManyNodesOfNothing: trees may be greater than the bound of steps.
func TestManyNodesOfNothing(t *testing.T) {
	c := code(t, `module m; a = b b b b; b = c c c c; c = d d d d; d = e e e e; e = f f f f; f = g g g g; g = "x" "y" / "x"?;`)
	r := Run(c, "x", lots)
	product := len(c.List) * 2
	if r.End != 1 || len(r.Tree) != 1+4+16+64+256+1024+4096+1 || r.Steps > api.MaxCost*product*product {
		t.Errorf("%d, %d nodes, %d steps", r.End, len(r.Tree), r.Steps)
	}
}
