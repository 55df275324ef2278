package dialect

import (
	"math/rand"
	"reflect"
	"strconv"
	"strings"
	"testing"

	"eyot/api"
	"eyot/reader"
	"eyot/syntax"
)

func expr(t *testing.T, s string) api.Expr {
	t.Helper()
	e, f := reader.Parse(s)
	if f != (api.Fault{}) {
		t.Fatalf("%s: %v", s, f)
	}
	return e
}

func TestParse(t *testing.T) {
	m, f := Parse("module m;\nimport n; import o;\nwater = \"#\" / a;\n# a note\nmain = (~call~)*;\ncall = x:n::id \"(\";")
	want := api.Module{
		Name: "m", Imports: []string{"n", "o"}, Wet: true, Water: expr(t, `"#" / a`),
		Rules: []api.Rule{{Name: "main", Body: expr(t, "(~call~)*")}, {Name: "call", Body: expr(t, `x:n::id "("`)}},
	}
	if !reflect.DeepEqual(m, want) || f != (api.Fault{}) {
		t.Errorf("%v, %v", m, f)
	}
	if m, f := Parse("module m;"); !reflect.DeepEqual(m, api.Module{Name: "m"}) || f != (api.Fault{}) {
		t.Errorf("%v, %v", m, f)
	}
	if _, f := Parse("module m; m = m; n = a;"); f != (api.Fault{}) {
		t.Errorf("a rule may have the module's name: %v", f)
	}
}

// rules writes so many rules.
func rules(n int) string {
	s := ""
	for i := range n {
		s += "r" + strconv.Itoa(i) + " = .;"
	}
	return s
}

func TestParseFaults(t *testing.T) {
	large := "module m; " + rules(24)
	for _, c := range []struct {
		s   string
		err api.Errno
		at  int
	}{
		{"", api.ErrForm, 0},
		{"m;", api.ErrForm, 0},
		{"module", api.ErrForm, 6},
		{"module ;", api.ErrForm, 7},
		{"module water;", api.ErrForm, 7},
		{"module m", api.ErrForm, 8},
		{"module m, a = b;", api.ErrForm, 8}, // a token that is none comes first
		{"module m; a = b; $", api.ErrForm, 17},
		{"modules m;", api.ErrForm, 0},
		{"module m; import ;", api.ErrForm, 17},
		{"module m; import module;", api.ErrForm, 17},
		{"module m; import water;", api.ErrForm, 17},
		{"module m; import import n;", api.ErrForm, 17},
		{"module m; import n", api.ErrForm, 18},
		{"module m; import m;", api.ErrTwice, 17},
		{"module m; import m", api.ErrTwice, 17},
		{"module m; import n; import n;", api.ErrTwice, 27},
		{"module m; import a; import b; import c; import d; import e;", api.ErrLarge, 50},
		{"module m; import a; import b; import c; import d; import ;", api.ErrLarge, 50},
		{"module m; a = b; import n;", api.ErrForm, 17},
		{"module m; water = a; import n;", api.ErrForm, 21},
		{"module m; a = b; water = a;", api.ErrForm, 17},
		{"module m; water = a; water = a;", api.ErrForm, 21},
		{"module m; water a;", api.ErrForm, 16},
		{"module m; water = ;", api.ErrForm, 18},
		{"module m; water = a", api.ErrForm, 19},
		{"module m; import = a;", api.ErrForm, 17},
		{"module m; module = a;", api.ErrForm, 10},
		{"module m; a b;", api.ErrForm, 12},
		{"module m; a = ;", api.ErrForm, 14},
		{"module m; a = b", api.ErrForm, 15},
		{"module m; a = b) ;", api.ErrForm, 15},
		{"module m; a = &b:c ;", api.ErrForm, 16},
		{"module m; a = b c = d;", api.ErrForm, 18},
		{"module m; ;", api.ErrForm, 10},
		{"module m; \"a\" = b;", api.ErrForm, 10},
		{"module m; a = b; a = b;", api.ErrTwice, 17},
		{"module m; a = b; a", api.ErrTwice, 17},
		{"module m; a = b; a = c $", api.ErrForm, 23},
		{large + " more = .;", api.ErrLarge, len(large) + 1},
		{large + " more", api.ErrLarge, len(large) + 1},
		{large + " r3 = .;", api.ErrTwice, len(large) + 1},
		{large + " import n;", api.ErrForm, len(large) + 1},
		{large + " ;", api.ErrForm, len(large) + 1},
		{"module m; a = " + strings.Repeat("(", 13), api.ErrLarge, 26},
		{"module m; a = " + strings.Repeat("(", 11) + "a" + strings.Repeat("?)", 11) + "? ) ", api.ErrLarge, 14},
		{strings.Repeat(" ", 4001), api.ErrLarge, 4000},
	} {
		m, f := Parse(c.s)
		if !reflect.DeepEqual(m, api.Module{}) || f != (api.Fault{Err: c.err, At: c.at}) {
			t.Errorf("Parse(%s): %v", c.s, f)
		}
	}
	if m, f := Parse(large); len(m.Rules) != 24 || f != (api.Fault{}) {
		t.Errorf("24 rules may be: %v", f)
	}
	if m, f := Parse("module m; import a; import b; import c; import d;"); len(m.Imports) != 4 || f != (api.Fault{}) {
		t.Errorf("four imports may be: %v", f)
	}
}

func TestPrint(t *testing.T) {
	m := api.Module{
		Name: "m", Imports: []string{"n", "o"}, Wet: true, Water: expr(t, "a/b"),
		Rules: []api.Rule{{Name: "r", Body: expr(t, "(~a~)*")}, {Name: "s", Body: expr(t, "\"\\n\"")}},
	}
	want := "module m;\nimport n;\nimport o;\nwater = a / b;\nr = (~a~)*;\ns = \"\\n\";\n"
	if got := Print(m); got != want {
		t.Errorf("%q", got)
	}
	m.Wet = false
	if got := Print(m); got != strings.Replace(want, "water = a / b;\n", "", 1) {
		t.Errorf("%q", got)
	}
	if got := Print(api.Module{}); got != "module ;\n" {
		t.Errorf("%q", got)
	}
}

func TestRight(t *testing.T) {
	body := expr(t, "a")
	good := func() api.Module {
		return api.Module{Name: "m", Imports: []string{"a", "b", "c", "d"}, Wet: true, Water: body, Rules: []api.Rule{{Name: "m", Body: body}, {Name: "a", Body: body}}}
	}
	if !Right(good()) || !Right(api.Module{Name: "m"}) || !Right(api.Module{Name: "m", Imports: []string{}, Rules: []api.Rule{}, Water: api.Expr{Kids: []api.Expr{}}}) {
		t.Error("these may be")
	}
	many := make([]api.Rule, 25)
	for i := range many {
		many[i] = api.Rule{Name: "r" + strconv.Itoa(i), Body: body}
	}
	if !Right(api.Module{Name: "m", Rules: many[:24]}) {
		t.Error("24 rules may be")
	}
	for i, change := range []func(*api.Module){
		func(m *api.Module) { m.Name = "" },
		func(m *api.Module) { m.Name = "water" },
		func(m *api.Module) { m.Name = "a" },
		func(m *api.Module) { m.Imports = append(m.Imports, "e") },
		func(m *api.Module) { m.Imports[1] = "a" },
		func(m *api.Module) { m.Imports[3] = "m" },
		func(m *api.Module) { m.Imports[0] = "import" },
		func(m *api.Module) { m.Imports[0] = "" },
		func(m *api.Module) { m.Wet = false },
		func(m *api.Module) { m.Water = api.Expr{} },
		func(m *api.Module) { m.Water.Text = "" },
		func(m *api.Module) { m.Wet, m.Water = false, api.Expr{Text: "a"} },
		func(m *api.Module) { m.Rules = many },
		func(m *api.Module) { m.Rules[0].Name = "a" },
		func(m *api.Module) { m.Rules[1].Name = "module" },
		func(m *api.Module) { m.Rules[1].Body = api.Expr{} },
		func(m *api.Module) { m.Rules[0].Body = api.Expr{Op: api.OpSeq, Kids: []api.Expr{body}} },
	} {
		m := good()
		change(&m)
		if Right(m) {
			t.Errorf("the change %d may not be", i)
		}
	}
}

// some makes a module that may be.
func some(r *rand.Rand, t *testing.T) api.Module {
	names := []string{"a", "b", "c9", "waters", "abcdefghijkl"}
	bodies := []string{"a", "\"x\\\"\" / .", "(~m::a~)*", "l:[a-z]+ !b", "&(a b) (c / d)?", "((a b) c)*"}
	m := api.Module{Name: "m", Imports: names[:r.Intn(5):5]}
	if r.Intn(2) == 0 {
		m.Wet, m.Water = true, expr(t, bodies[r.Intn(len(bodies))])
	}
	for i := range r.Intn(25) {
		m.Rules = append(m.Rules, api.Rule{Name: "r" + strconv.Itoa(i), Body: expr(t, bodies[r.Intn(len(bodies))])})
	}
	return m
}

func same(a, b api.Module) bool {
	if a.Name != b.Name || strings.Join(a.Imports, ";") != strings.Join(b.Imports, ";") || a.Wet != b.Wet || !syntax.Same(a.Water, b.Water) || len(a.Rules) != len(b.Rules) {
		return false
	}
	for i := range a.Rules {
		if a.Rules[i].Name != b.Rules[i].Name || !syntax.Same(a.Rules[i].Body, b.Rules[i].Body) {
			return false
		}
	}
	return true
}

func TestThereAndBack(t *testing.T) {
	r := rand.New(rand.NewSource(9))
	for range 500 {
		m := some(r, t)
		if got, f := Parse(Print(m)); !Right(m) || !same(got, m) || f != (api.Fault{}) {
			t.Fatalf("%s: %v", Print(m), f)
		}
	}
}
