package lookup

import (
	"math"
	"testing"

	"eyot/api"
	"eyot/dialect"
)

func modules(t *testing.T, l ...string) []api.Module {
	t.Helper()
	var all []api.Module
	for _, s := range l {
		m, f := dialect.Parse(s)
		if f != (api.Fault{}) {
			t.Fatalf("%s: %v", s, f)
		}
		all = append(all, m)
	}
	return all
}

func sample(t *testing.T) []api.Module {
	return modules(t,
		"module m; import o; import n; import gone; a = .; m = .;",
		"module n; import m; a = .; id = .; num = .;",
		"module o; num = .; id = .; o = .;",
		"module p; import n; b = .;",
		"module n; a = .; z = .;",
	)
}

func TestFindAndRule(t *testing.T) {
	l := sample(t)
	for name, want := range map[string]int{"m": 0, "n": 1, "o": 2, "p": 3, "q": -1, "": -1, "a": -1, "M": -1, "m ": -1} {
		if got := Find(l, name); got != want {
			t.Errorf("Find(%q) = %d", name, got)
		}
	}
	for name, want := range map[string]int{"a": 0, "id": 1, "num": 2, "z": -1, "": -1, "n": -1} {
		if got := Rule(l[1], name); got != want {
			t.Errorf("Rule(%q) = %d", name, got)
		}
	}
	if Find(nil, "m") != -1 || Rule(api.Module{}, "a") != -1 {
		t.Error("there are none")
	}
	l[1].Rules = append(l[1].Rules, l[1].Rules[0])
	if Rule(l[1], "a") != 0 {
		t.Error("the first rule of that name")
	}
}

func TestResolve(t *testing.T) {
	l := sample(t)
	for _, c := range []struct {
		in           int
		ref          string
		module, rule int
		ok           bool
	}{
		{0, "a", 0, 0, true},      // its own goes ahead
		{0, "id", 2, 1, true},     // the first of its imports
		{0, "num", 2, 0, true},    // likewise
		{0, "n::id", 1, 1, true},  // of that module alone
		{0, "n::a", 1, 0, true},   // not its own
		{0, "m::a", 0, 0, true},   // its own name
		{0, "m::id", 0, 0, false}, // its own has none
		{0, "gone::a", 0, 0, false},
		{0, "p::b", 0, 0, false}, // isn't imported
		{0, "b", 0, 0, false},
		{1, "m", 0, 1, true},
		{1, "o", 0, 0, false}, // not by an import's imports
		{1, "n::num", 1, 2, true},
		{2, "a", 0, 0, false},
		{3, "a", 1, 0, true},
		{3, "z", 0, 0, false}, // an import is the first module of its name
		{4, "z", 4, 1, true},
		{4, "n::z", 4, 1, true}, // the module at the place itself
		{4, "id", 0, 0, false},
		{0, "", 0, 0, false}, {0, "::a", 0, 0, false}, {0, "m::", 0, 0, false}, {0, "m::n::a", 0, 0, false}, {0, "water", 0, 0, false}, {0, " a", 0, 0, false},
		{5, "a", 0, 0, false}, {-1, "a", 0, 0, false}, {math.MaxInt, "a", 0, 0, false}, {math.MinInt, "a", 0, 0, false},
	} {
		if m, r, ok := Resolve(l, c.in, c.ref); m != c.module || r != c.rule || ok != c.ok {
			t.Errorf("Resolve(%d, %q) = %d, %d, %v", c.in, c.ref, m, r, ok)
		}
	}
	if m, r, ok := Resolve(nil, 0, "a"); m != 0 || r != 0 || ok {
		t.Error("there are no modules")
	}
}

func TestExample(t *testing.T) {
	l := modules(t, "module m; import n; a = id;", "module n; id = .;")
	if m, r, ok := Resolve(l, 0, "id"); m != 1 || r != 0 || !ok {
		t.Error("id means n's")
	}
	l = modules(t, "module m; import n; a = id; id = .;", "module n; id = .;")
	if m, r, ok := Resolve(l, 0, "id"); m != 0 || r != 1 || !ok {
		t.Error("id means m's own")
	}
}
