package syntax

import (
	"math"
	"strings"
	"testing"

	"eyot/alphabet"
	"eyot/api"
)

func TestWord(t *testing.T) {
	for _, s := range []string{"a", "Z", "A", "z", "azAZ09_", "a1", "a_", "zZ_09", "abcdefghijkl", "waters", "Water", "modul", "imports", "importe_1"} {
		if !Word(s) {
			t.Errorf("%q is a name", s)
		}
	}
	for _, s := range []string{"", "_a", "1a", "a-b", "a b", " a", "a ", "a\n", "abcdefghijklm", "module", "import", "water", "a::b", "\xc3\xa9", "a\xc3\xa9", "a\x00", "{", "@", "[", "`", "a/", "a:"} {
		if Word(s) {
			t.Errorf("%q is no name", s)
		}
	}
}

func TestSplit(t *testing.T) {
	for _, c := range []struct {
		s, module, rule string
		ok              bool
	}{
		{"a", "", "a", true}, {"m::r", "m", "r", true}, {"", "", "", false}, {"::r", "", "r", false}, {"m::", "m", "", false},
		{"::", "", "", false}, {"a::b::c", "a", "b::c", false}, {"a:b", "", "a:b", false}, {"a:::b", "a", ":b", false},
		{"water", "", "water", false}, {"water::a", "water", "a", false}, {"a::import", "a", "import", false},
		{"abcdefghijkl::abcdefghijkl", "abcdefghijkl", "abcdefghijkl", true}, {"m ::r", "m ", "r", false}, {"abcdefghijklm", "", "abcdefghijklm", false},
	} {
		if module, rule, ok := Split(c.s); module != c.module || rule != c.rule || ok != c.ok {
			t.Errorf("Split(%q) = %q, %q, %v", c.s, module, rule, ok)
		}
	}
}

func kids(op int, l ...api.Expr) api.Expr { return api.Expr{Op: op, Kids: l} }
func lit(s string) api.Expr               { return api.Expr{Op: api.OpLit, Text: s} }
func ref(s string) api.Expr               { return api.Expr{Op: api.OpRef, Text: s} }
func label(s string, l ...api.Expr) api.Expr {
	return api.Expr{Op: api.OpLabel, Text: s, Kids: l}
}

var digits = api.Expr{Op: api.OpClass, Set: alphabet.Range('0', '9')}
var dot = api.Expr{Op: api.OpAny}

// tower has so many expressions within one another.
func tower(n int) api.Expr {
	e := dot
	for range n - 1 {
		e = kids(api.OpOpt, e)
	}
	return e
}

func TestDeepAndSize(t *testing.T) {
	for _, c := range []struct {
		e          api.Expr
		deep, size int
	}{
		{api.Expr{}, 1, 1}, {dot, 1, 1}, {tower(1000), 1000, 1000}, {kids(api.OpSeq, dot, tower(3), dot), 4, 6},
		{kids(99, tower(2), tower(2)), 3, 5}, {kids(api.OpChoice, kids(api.OpSeq, dot, dot), dot), 3, 5},
	} {
		if Deep(c.e) != c.deep || Size(c.e) != c.size {
			t.Errorf("%d deep, %d in all", Deep(c.e), Size(c.e))
		}
	}
}

var unary = []int{api.OpStar, api.OpPlus, api.OpOpt, api.OpAnd, api.OpNot, api.OpSea}

func mayBe() []api.Expr {
	l := []api.Expr{
		lit("a"), lit("\x00"), lit(strings.Repeat("a", 40)), digits, dot, ref("a"), ref("m::r"), label("a", dot),
		kids(api.OpSeq, dot, lit("b")), kids(api.OpChoice, dot, dot, dot), tower(12),
		{Op: api.OpAny, Kids: []api.Expr{}},
	}
	for _, op := range unary {
		l = append(l, kids(op, digits))
	}
	return l
}

func mayNotBe() []api.Expr {
	any := alphabet.Range('a', 'b')
	l := []api.Expr{
		{}, kids(14, dot), kids(-1, dot), {Op: 14}, {Op: math.MaxInt}, {Op: math.MinInt},
		lit(""), lit(strings.Repeat("a", 41)), {Op: api.OpLit, Text: "a", Set: any}, {Op: api.OpLit, Text: "a", Kids: []api.Expr{dot}},
		{Op: api.OpClass}, {Op: api.OpClass, Set: any, Text: "a"}, kids(api.OpClass, dot),
		{Op: api.OpAny, Text: "."}, {Op: api.OpAny, Set: any}, kids(api.OpAny, dot), {Op: api.OpClass, Set: any, Kids: []api.Expr{dot}},
		kids(api.OpSeq), kids(api.OpSeq, dot), kids(api.OpChoice, dot), {Op: api.OpSeq, Text: "a", Kids: []api.Expr{dot, dot}}, {Op: api.OpChoice, Set: any, Kids: []api.Expr{dot, dot}},
		ref(""), ref("::r"), ref("a::b::c"), ref("water"), {Op: api.OpRef, Text: "a", Kids: []api.Expr{dot}}, {Op: api.OpRef, Text: "a", Set: any},
		label("a"), label("a", dot, dot), label("", dot), label("a::b", dot), label("import", dot),
		tower(13), kids(api.OpSeq, dot, tower(12)), kids(api.OpSeq, dot, lit("")), kids(api.OpSeq, kids(api.OpNot, api.Expr{}), dot),
	}
	for _, op := range unary {
		l = append(l, kids(op), kids(op, dot, dot), api.Expr{Op: op, Text: "a", Kids: []api.Expr{dot}}, api.Expr{Op: op, Set: any, Kids: []api.Expr{dot}})
	}
	return l
}

func TestRight(t *testing.T) {
	for i, e := range mayBe() {
		if !Right(e) {
			t.Errorf("%d may be", i)
		}
	}
	for i, e := range mayNotBe() {
		if Right(e) {
			t.Errorf("%d may not be", i)
		}
	}
}

// TestPartByPart: what is made of those that may be may be, if it isn't too deep.
func TestPartByPart(t *testing.T) {
	for _, a := range mayBe() {
		for _, b := range mayBe() {
			for _, e := range []api.Expr{kids(api.OpSeq, a, b), kids(api.OpChoice, b, a), kids(api.OpSea, a), label("x", b)} {
				if Right(e) != (Deep(e) <= 12) {
					t.Errorf("%d deep", Deep(e))
				}
			}
			for _, bad := range mayNotBe()[:30] {
				if Right(kids(api.OpSeq, a, bad)) || Right(kids(api.OpChoice, bad, b)) {
					t.Error("a part may not be")
				}
			}
		}
	}
}

func TestSame(t *testing.T) {
	l := append(mayBe(), mayNotBe()...)
	for i, a := range l {
		for j, b := range l {
			if !Same(a, a) {
				t.Errorf("%d is itself", i)
			}
			if i != j && Same(a, b) && !(len(a.Kids) == 0 && len(b.Kids) == 0 && a.Op == b.Op) {
				t.Errorf("%d, %d", i, j)
			}
		}
	}
	if !Same(api.Expr{Op: 3}, api.Expr{Op: 3, Kids: []api.Expr{}}) {
		t.Error("none, or an empty list, is the same")
	}
	if Same(kids(4, dot, digits), kids(4, digits, dot)) || Same(kids(4, dot), kids(4, dot, dot)) || Same(lit("a"), lit("b")) || Same(tower(5), tower(6)) {
		t.Error("these differ")
	}
	if Same(digits, api.Expr{Op: api.OpClass, Set: alphabet.Range('0', '8')}) {
		t.Error("sets differ")
	}
}
