package writer

import (
	"math"
	"math/rand"
	"strings"
	"testing"

	"eyot/alphabet"
	"eyot/api"
	"eyot/reader"
	"eyot/syntax"
)

func of(op int, l ...api.Expr) api.Expr { return api.Expr{Op: op, Kids: l} }
func ref(s string) api.Expr             { return api.Expr{Op: api.OpRef, Text: s} }

var a, b, c = ref("a"), ref("b"), ref("c")

func TestPrintOfEachOp(t *testing.T) {
	for _, x := range []struct {
		e    api.Expr
		want string
	}{
		{api.Expr{Op: api.OpLit, Text: "x\"\n\x00"}, `"x\"\n\x00"`},
		{api.Expr{Op: api.OpLit}, `""`},
		{api.Expr{Op: api.OpClass, Set: alphabet.Range('a', 'f')}, `[a-f]`},
		{api.Expr{Op: api.OpClass}, `[]`},
		{api.Expr{Op: api.OpAny}, `.`},
		{ref("m::r"), `m::r`},
		{ref("what so ever"), `what so ever`},
		{of(api.OpChoice, a, b, c), `a / b / c`},
		{of(api.OpSeq, a, b, c), `a b c`},
		{of(api.OpAnd, a), `&a`},
		{of(api.OpNot, a), `!a`},
		{of(api.OpSea, a), `~a~`},
		{of(api.OpStar, a), `a*`},
		{of(api.OpPlus, a), `a+`},
		{of(api.OpOpt, a), `a?`},
		{api.Expr{Op: api.OpLabel, Text: "l", Kids: []api.Expr{a}}, `l:a`},
		{of(api.OpStar, of(api.OpSea, a)), `(~a~)*`},
	} {
		if got := Print(x.e); got != x.want {
			t.Errorf("%s, not %s", got, x.want)
		}
	}
}

// TestParentheses tries each Op within each.
func TestParentheses(t *testing.T) {
	binds := map[int]int{
		api.OpChoice: 0, api.OpSeq: 1, api.OpAnd: 2, api.OpNot: 2, api.OpSea: 2, api.OpLabel: 2, api.OpStar: 3, api.OpPlus: 3, api.OpOpt: 3,
		api.OpLit: 4, api.OpClass: 4, api.OpAny: 4, api.OpRef: 4, 0: 4, 14: 4, -3: 4,
	}
	needs := map[int]int{
		api.OpChoice: 1, api.OpSeq: 2, api.OpAnd: 3, api.OpNot: 3, api.OpSea: 3, api.OpLabel: 3, api.OpStar: 4, api.OpPlus: 4, api.OpOpt: 4,
	}
	for outer, need := range needs {
		for inner, bind := range binds {
			kid := api.Expr{Op: inner, Text: "k", Kids: []api.Expr{a, b}}
			text := Print(kid)
			if bind < need {
				text = "(" + text + ")"
			}
			if got := Print(of(outer, kid, c)); !strings.Contains(got, text) || bind >= need && strings.Contains(got, "("+text+")") && text != "" {
				t.Errorf("%d in %d: %s", inner, outer, got)
			}
		}
	}
}

func TestWhatMayNotBe(t *testing.T) {
	for _, x := range []struct {
		e    api.Expr
		want string
	}{
		{api.Expr{}, ``},
		{of(0, a, b), ``},
		{of(14, a), ``},
		{of(math.MinInt, a), ``},
		{of(api.OpSeq), ``},
		{of(api.OpSeq, a), `a`},
		{of(api.OpSeq, a, api.Expr{}, b), `a  b`},
		{of(api.OpChoice), ``},
		{of(api.OpStar), `*`},
		{of(api.OpStar, a, b), `ab*`},
		{of(api.OpNot, a, of(api.OpSeq, b, c)), `!a(b c)`},
		{of(api.OpSea), `~~`},
		{of(api.OpSea, a, b, c), `~abc~`},
		{of(api.OpLabel, a), `:a`},
		{of(api.OpLit, a), `""`},
		{api.Expr{Op: api.OpAny, Text: "x", Kids: []api.Expr{a}}, `.`},
		{of(api.OpRef, a), ``},
	} {
		if got := Print(x.e); got != x.want {
			t.Errorf("%q, not %q", got, x.want)
		}
	}
	deep := a
	for range 999 {
		deep = of(api.OpOpt, deep)
	}
	if got := Print(deep); len(got) != 1+999+2*998 {
		t.Errorf("a thousand within one another: %d bytes", len(got))
	}
}

// some makes an expression that may be, of at most so many within one another.
func some(r *rand.Rand, deep int) api.Expr {
	op := 1 + r.Intn(13)
	if deep == 1 {
		op = []int{api.OpLit, api.OpClass, api.OpAny, api.OpRef}[r.Intn(4)]
	}
	e := api.Expr{Op: op}
	count := 1
	switch op {
	case api.OpLit:
		text := make([]byte, 1+r.Intn(40))
		for i := range text {
			text[i] = byte(r.Intn(256))
		}
		e.Text, count = string(text), 0
	case api.OpClass:
		e.Set, count = api.Set{r.Uint64() | 1, r.Uint64(), r.Uint64(), r.Uint64() & r.Uint64()}, 0
	case api.OpAny:
		count = 0
	case api.OpRef:
		e.Text, count = []string{"a", "b_2", "m::a", "waters"}[r.Intn(4)], 0
	case api.OpLabel:
		e.Text = []string{"l", "abcdefghijkl"}[r.Intn(2)]
	case api.OpSeq, api.OpChoice:
		count = 2 + r.Intn(3)
	}
	for range count {
		e.Kids = append(e.Kids, some(r, deep-1))
	}
	return e
}

func TestThereAndBack(t *testing.T) {
	r := rand.New(rand.NewSource(8))
	read := 0
	for range 6000 {
		e := some(r, 1+r.Intn(12))
		s := Print(e)
		if !syntax.Right(e) || len(s) > api.MaxSource {
			continue
		}
		read++
		if got, f := reader.Parse(s); !syntax.Same(got, e) || f != (api.Fault{}) {
			t.Fatalf("%s is read as %s, %v", s, Print(got), f)
		}
	}
	if read < 3000 {
		t.Errorf("only %d were read", read)
	}
}
