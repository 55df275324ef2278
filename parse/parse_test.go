package parse

import (
	"math"
	"math/rand"
	"reflect"
	"strings"
	"testing"

	"eyot/api"
	"eyot/joint"
	"eyot/lower"
	"eyot/machine"
	"eyot/sample"
)

func code(t *testing.T, text string) api.Code {
	t.Helper()
	g, f := sample.Join("a", text)
	if f.Err != api.OK {
		t.Fatalf("%s: %v", text, f)
	}
	c, f := lower.Lower(g)
	if f.Err != api.OK {
		t.Fatalf("%s: %v", text, f)
	}
	return c
}

func TestEnough(t *testing.T) {
	c := api.Code{List: make([]api.Ins, 7)}
	for n, want := range map[int]api.Limits{
		0:           {Memories: 7, Steps: 16 * 49, Frames: 8},
		9:           {Memories: 70, Steps: 16 * 4900, Frames: 71},
		2000:        {Memories: 7 * 2001, Steps: 16 * 7 * 7 * 2001 * 2001, Frames: 7*2001 + 1},
		-1:          {Memories: 7, Steps: 16 * 49, Frames: 8},
		math.MinInt: {Memories: 7, Steps: 16 * 49, Frames: 8},
	} {
		if got := Enough(c, n); got != want {
			t.Errorf("Enough(%d) = %v", n, got)
		}
	}
	if got := Enough(api.Code{}, 5); got != (api.Limits{Frames: 1}) {
		t.Errorf("%v", got)
	}
	if got := Enough(api.Code{List: make([]api.Ins, 200)}, 2000); got.Steps != 16*400200*400200 {
		t.Errorf("%v", got)
	}
}

func TestParse(t *testing.T) {
	plus := code(t, `module m; a = "x"+;`)
	deep := code(t, `module m; a = ("x" "y" "z" / "x");`)
	for _, c := range []struct {
		code  api.Code
		input string
		all   bool
		want  api.Result
	}{
		{plus, "xx", true, api.Result{End: 2, Far: 2}},
		{plus, "xxy", false, api.Result{End: 2, Far: 2}},
		{plus, "xxy", true, api.Result{Err: api.ErrFail, Far: 2}},
		{deep, "xyx", true, api.Result{Err: api.ErrFail, Far: 2}}, // it failed farther on than it ended
		{deep, "xyx", false, api.Result{End: 1, Far: 2}},
		{code(t, `module m; a = "x" "y";`), "xyz", true, api.Result{Err: api.ErrFail, Far: 2}}, // it failed nowhere
		{plus, "y", true, api.Result{Err: api.ErrFail, Far: 0}},
		{plus, "y", false, api.Result{Err: api.ErrFail, Far: 0}},
		{plus, "", true, api.Result{Err: api.ErrFail, Far: 0}},
		{plus, strings.Repeat("x", 2001), true, api.Result{Err: api.ErrLarge, Far: -1}},
	} {
		l := Enough(c.code, len(c.input))
		got, run := Parse(c.code, c.input, c.all, l), machine.Run(c.code, c.input, l)
		want := c.want
		want.Steps, want.Frames = run.Steps, run.Frames
		if want.Err == api.OK {
			want.Tree = run.Tree
		}
		if !reflect.DeepEqual(got, want) {
			t.Errorf("%q, %v: %v, not %v", c.input, c.all, got, want)
		}
	}
	none := api.Limits{Memories: 5}
	if got := Parse(plus, "xxy", true, none); got.Err != api.ErrLimit || got.Far != -1 {
		t.Errorf("no steps: %v", got)
	}
}

func TestWhere(t *testing.T) {
	for _, c := range []struct {
		r    api.Result
		want api.Spot
	}{
		{api.Result{End: 3, Far: 1}, api.Spot{Line: 2, Column: 1}}, {api.Result{End: 5}, api.Spot{Line: 2, Column: 3}}, {api.Result{End: 99}, api.Spot{Line: 2, Column: 3}},
		{api.Result{End: -4}, api.Spot{Line: 1, Column: 1}}, {api.Result{Err: api.ErrFail, Far: 4}, api.Spot{Line: 2, Column: 2}},
		{api.Result{Err: api.ErrLimit, Far: -1, End: 4}, api.Spot{Line: 1, Column: 1}}, {api.Result{Err: 77, Far: 2}, api.Spot{Line: 1, Column: 3}},
	} {
		if got := Where("ab\ncd", c.r); got != c.want {
			t.Errorf("%v: %v", c.r, got)
		}
	}
}

// TestEnoughIsEnough: with these limits ErrLimit is never told.
func TestEnoughIsEnough(t *testing.T) {
	parsed := 0
	for i := range 800 {
		r := rand.New(rand.NewSource(int64(i)))
		g, f := joint.Join(sample.Modules(r.Intn), "r0")
		if f.Err != api.OK {
			continue
		}
		c, f := lower.Lower(g)
		if f.Err != api.OK {
			continue
		}
		for range 5 {
			b := make([]byte, r.Intn(60))
			for k := range b {
				b[k] = "aabc"[r.Intn(4)]
			}
			full := machine.Run(c, string(b), api.Limits{Memories: math.MaxInt, Steps: math.MaxInt, Frames: math.MaxInt})
			got := Parse(c, string(b), false, Enough(c, len(b)))
			if !reflect.DeepEqual(got, full) || got.Err == api.ErrLimit {
				t.Fatalf("%d: %q: %v, not %v", i, b, got, full)
			}
			parsed++
		}
	}
	if parsed < 2000 {
		t.Errorf("only %d were parsed", parsed)
	}
}
