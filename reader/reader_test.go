package reader

import (
	"math"
	"math/rand"
	"strings"
	"testing"

	"eyot/alphabet"
	"eyot/api"
	"eyot/quote"
	"eyot/syntax"
	"eyot/token"
)

func kids(op int, l ...api.Expr) api.Expr { return api.Expr{Op: op, Kids: l} }
func lit(s string) api.Expr               { return api.Expr{Op: api.OpLit, Text: s} }
func ref(s string) api.Expr               { return api.Expr{Op: api.OpRef, Text: s} }
func label(s string, e api.Expr) api.Expr {
	return api.Expr{Op: api.OpLabel, Text: s, Kids: []api.Expr{e}}
}
func seq(l ...api.Expr) api.Expr    { return kids(api.OpSeq, l...) }
func choice(l ...api.Expr) api.Expr { return kids(api.OpChoice, l...) }
func star(e api.Expr) api.Expr      { return kids(api.OpStar, e) }
func sea(e api.Expr) api.Expr       { return kids(api.OpSea, e) }
func and(e api.Expr) api.Expr       { return kids(api.OpAnd, e) }
func not(e api.Expr) api.Expr       { return kids(api.OpNot, e) }

var dot = api.Expr{Op: api.OpAny}
var digits = api.Expr{Op: api.OpClass, Set: alphabet.Range('0', '9')}

func TestParse(t *testing.T) {
	a, b, c := ref("a"), ref("b"), ref("c")
	for s, want := range map[string]api.Expr{
		`a`:                 a,
		`"x"`:               lit("x"),
		`[0-9]`:             digits,
		`.`:                 dot,
		`m::a`:              ref("m::a"),
		"m :: # note\n a":   ref("m::a"),
		`a b c`:             seq(a, b, c),
		`a/b/c`:             choice(a, b, c),
		`a b / c`:           choice(seq(a, b), c),
		`(a)`:               a,
		`((a))*`:            star(a),
		`(a b) c`:           seq(seq(a, b), c),
		`a (b c)`:           seq(a, seq(b, c)),
		`a / (b / c)`:       choice(a, choice(b, c)),
		`(a / b) c`:         seq(choice(a, b), c),
		`a* b+ c?`:          seq(star(a), kids(api.OpPlus, b), kids(api.OpOpt, c)),
		`&a !b`:             seq(and(a), not(b)),
		`&a*`:               and(star(a)),
		`(&a)*`:             star(and(a)),
		`~a~`:               sea(a),
		`~a~ ~b~`:           seq(sea(a), sea(b)),
		`~a*~`:              sea(star(a)),
		`(~a~)*`:            star(sea(a)),
		`~(a b)~ c`:         seq(sea(seq(a, b)), c),
		`x:a`:               label("x", a),
		`x:a+ b`:            seq(label("x", kids(api.OpPlus, a)), b),
		`a x:b`:             seq(a, label("x", b)),
		`a / x:(b c)`:       choice(a, label("x", seq(b, c))),
		`x:m::a`:            label("x", ref("m::a")),
		`x : a`:             label("x", a),
		`&(x:a)`:            and(label("x", a)),
		`!(!a)`:             not(not(a)),
		`"a"."b"`:           seq(lit("a"), dot, lit("b")),
		`a"b"[0-9](c)&c~c~`: seq(a, lit("b"), digits, c, and(c), sea(c)),
	} {
		got, f := Parse(s)
		if !syntax.Same(got, want) || f != (api.Fault{}) {
			t.Errorf("Parse(%s) = %v, %v", s, got, f)
		}
	}
}

func TestParseFaults(t *testing.T) {
	twelve, closed := strings.Repeat("(", 12), strings.Repeat(")", 12)
	for s, want := range map[string]api.Fault{
		``:                      {Err: api.ErrForm, At: 0},
		`  `:                    {Err: api.ErrForm, At: 2},
		`a $`:                   {Err: api.ErrForm, At: 2},
		`) $`:                   {Err: api.ErrForm, At: 2}, // tokens come first
		`~a b~`:                 {Err: api.ErrForm, At: 3},
		`~a`:                    {Err: api.ErrForm, At: 2},
		`~~`:                    {Err: api.ErrForm, At: 1},
		`~x:a~`:                 {Err: api.ErrForm, At: 2},
		`&x:a`:                  {Err: api.ErrForm, At: 2},
		`!x:a`:                  {Err: api.ErrForm, At: 2},
		`x:y:a`:                 {Err: api.ErrForm, At: 3},
		`&!a`:                   {Err: api.ErrForm, At: 1},
		`a**`:                   {Err: api.ErrForm, At: 2},
		`*`:                     {Err: api.ErrForm, At: 0},
		`a /`:                   {Err: api.ErrForm, At: 3},
		`/ a`:                   {Err: api.ErrForm, At: 0},
		`a // b`:                {Err: api.ErrForm, At: 3},
		`()`:                    {Err: api.ErrForm, At: 1},
		`(a`:                    {Err: api.ErrForm, At: 2},
		`(a;`:                   {Err: api.ErrForm, At: 2},
		`a)`:                    {Err: api.ErrForm, At: 1},
		`a;`:                    {Err: api.ErrForm, At: 1},
		`a = b`:                 {Err: api.ErrForm, At: 2},
		`a::`:                   {Err: api.ErrForm, At: 3},
		`a::"b"`:                {Err: api.ErrForm, At: 3},
		`::a`:                   {Err: api.ErrForm, At: 0},
		`a::b::c`:               {Err: api.ErrForm, At: 4},
		`m::water`:              {Err: api.ErrForm, At: 3},
		`water`:                 {Err: api.ErrForm, At: 0},
		`a module`:              {Err: api.ErrForm, At: 2},
		`import:a`:              {Err: api.ErrForm, At: 0},
		`water::a`:              {Err: api.ErrForm, At: 0},
		`x:`:                    {Err: api.ErrForm, At: 2},
		`:a`:                    {Err: api.ErrForm, At: 0},
		`"x":a`:                 {Err: api.ErrForm, At: 3},
		`a .:a`:                 {Err: api.ErrForm, At: 3},
		`&`:                     {Err: api.ErrForm, At: 1},
		twelve + `(a)` + closed: {Err: api.ErrLarge, At: 12},
		twelve + `(`:            {Err: api.ErrLarge, At: 12},
		`a ` + twelve + `a:(;`:  {Err: api.ErrLarge, At: 16},
		twelve + `;(a`:          {Err: api.ErrForm, At: 12},
		strings.Repeat("(", 11) + "a" + strings.Repeat("?)", 11) + "? ;":              {Err: api.ErrLarge, At: 0},
		strings.Repeat("!(", 6) + strings.Repeat("(a)*", 1) + strings.Repeat(")?", 6): {Err: api.ErrLarge, At: 0},
		strings.Repeat(" ", 4001): {Err: api.ErrLarge, At: 4000},
	} {
		if got, f := Parse(s); !syntax.Same(got, api.Expr{}) || f != want {
			t.Errorf("Parse(%s): %v", s, f)
		}
	}
}

func TestJustDeepEnough(t *testing.T) {
	if e, f := Parse(strings.Repeat("(", 12) + "a" + strings.Repeat(")", 12)); !syntax.Same(e, ref("a")) || f != (api.Fault{}) {
		t.Errorf("twelve parentheses: %v", f)
	}
	if e, f := Parse(strings.Repeat("(", 10) + "a" + strings.Repeat("?)", 10) + "?"); syntax.Deep(e) != 12 || f != (api.Fault{}) {
		t.Errorf("twelve within one another: %v", f)
	}
	side := strings.Repeat("(a) ", 14) + "((a) (a))"
	if _, f := Parse(side); f != (api.Fault{}) {
		t.Errorf("parentheses side by side: %v", f)
	}
}

func TestRead(t *testing.T) {
	l, _ := token.All("a b ) ~ c ~ ; x:d &e:f")
	for _, c := range []struct {
		at, behind int
		want       api.Expr
		fault      api.Fault
	}{
		{0, 2, seq(ref("a"), ref("b")), api.Fault{}},
		{1, 2, ref("b"), api.Fault{}},
		{2, 0, api.Expr{}, api.Fault{Err: api.ErrForm, At: 4}},
		{3, 6, sea(ref("c")), api.Fault{}},
		{4, 0, api.Expr{}, api.Fault{Err: api.ErrForm, At: 12}},
		{6, 0, api.Expr{}, api.Fault{Err: api.ErrForm, At: 12}},
		{7, 12, seq(label("x", ref("d")), and(ref("e"))), api.Fault{}},
		{11, 14, label("e", ref("f")), api.Fault{}},
		{14, 0, api.Expr{}, api.Fault{Err: api.ErrForm, At: 22}},
		{15, 0, api.Expr{}, api.Fault{Err: api.ErrArg}},
		{-1, 0, api.Expr{}, api.Fault{Err: api.ErrArg}},
		{math.MaxInt, 0, api.Expr{}, api.Fault{Err: api.ErrArg}},
		{math.MinInt, 0, api.Expr{}, api.Fault{Err: api.ErrArg}},
	} {
		e, behind, f := Read(l, c.at)
		if !syntax.Same(e, c.want) || behind != c.behind || f != c.fault {
			t.Errorf("Read at %d: %v, %d, %v", c.at, e, behind, f)
		}
	}
	l, _ = token.All("; " + strings.Repeat("(", 11) + "a" + strings.Repeat("?)", 11) + "?")
	if e, behind, f := Read(l, 1); !syntax.Same(e, api.Expr{}) || behind != 0 || f != (api.Fault{Err: api.ErrLarge, At: 2}) {
		t.Errorf("too deep: %v", f)
	}
	if _, _, f := Read(nil, 0); f != (api.Fault{Err: api.ErrArg}) {
		t.Errorf("no tokens: %v", f)
	}
}

// some makes an expression of at most so many within one another.
func some(r *rand.Rand, deep int) api.Expr {
	op := 1 + r.Intn(13)
	if deep == 1 {
		op = []int{api.OpLit, api.OpClass, api.OpAny, api.OpRef}[r.Intn(4)]
	}
	e := api.Expr{Op: op}
	count := 1
	switch op {
	case api.OpLit:
		e.Text, count = string([]byte{byte(r.Intn(256)), byte(r.Intn(256))}), 0
	case api.OpClass:
		e.Set, count = api.Set{r.Uint64() | 1, r.Uint64(), r.Uint64(), r.Uint64()}, 0
	case api.OpAny:
		count = 0
	case api.OpRef:
		e.Text, count = []string{"a", "b2", "m::a"}[r.Intn(3)], 0
	case api.OpLabel:
		e.Text = "l"
	case api.OpSeq, api.OpChoice:
		count = 2 + r.Intn(2)
	}
	for range count {
		e.Kids = append(e.Kids, some(r, deep-1))
	}
	return e
}

// full writes e with each Kid in parentheses.
func full(e api.Expr) string {
	var l []string
	for _, kid := range e.Kids {
		l = append(l, "("+full(kid)+")")
	}
	switch e.Op {
	case api.OpLit:
		return quote.Text(e.Text)
	case api.OpClass:
		return quote.Class(e.Set)
	case api.OpAny:
		return "."
	case api.OpRef:
		return e.Text
	case api.OpSeq:
		return strings.Join(l, "")
	case api.OpChoice:
		return strings.Join(l, "/")
	case api.OpLabel:
		return e.Text + ":" + l[0]
	case api.OpSea:
		return "~" + l[0] + "~"
	case api.OpAnd:
		return "&" + l[0]
	case api.OpNot:
		return "!" + l[0]
	}
	return l[0] + map[int]string{api.OpStar: "*", api.OpPlus: "+", api.OpOpt: "?"}[e.Op]
}

func TestThereAndBack(t *testing.T) {
	r := rand.New(rand.NewSource(7))
	read := 0
	for range 3000 {
		e := some(r, 1+r.Intn(6))
		s := full(e)
		if len(s) > api.MaxSource {
			continue
		}
		read++
		if got, f := Parse(s); !syntax.Same(got, e) || f != (api.Fault{}) {
			t.Fatalf("%s is read as %v, %v", s, got, f)
		}
	}
	if read < 1000 {
		t.Errorf("only %d were read", read)
	}
}
