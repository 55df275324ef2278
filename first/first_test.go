package first

import (
	"math/rand"
	"testing"

	"eyot/alphabet"
	"eyot/api"
	"eyot/empty"
	"eyot/joint"
	"eyot/quote"
	"eyot/sample"
)

func TestOfBodies(t *testing.T) {
	all := quote.Class(alphabet.Range(0, 255))
	for body, want := range map[string]string{
		`"xyz"`:             `[x]`,
		`"\xff"`:            `[\xff]`,
		`[p-r]`:             `[p-r]`,
		`[^\x00]`:           `[\x01-\xff]`,
		`.`:                 all,
		`~"x"~`:             all,
		`b`:                 `[b]`,
		`&"x"`:              `[]`,
		`!"x"`:              `[]`,
		`"x" "y"`:           `[x]`,
		`"x"? "y"* "z" "q"`: `[x-z]`,
		`"x"? "y"?`:         `[xy]`,
		`!"x" "y"`:          `[y]`,
		`&b "c"`:            `[c]`,
		`"x" / "y" "z"`:     `[xy]`,
		`"x"*`:              `[x]`,
		`("x"? b)+`:         `[bx]`,
		`b?`:                `[b]`,
		`l:b`:               `[b]`,
		`a`:                 `[]`,
		`a / "x"`:           `[x]`,
		`"x" a`:             `[x]`,
		`"x"? a`:            `[x]`,
		`c "z"`:             `[yz]`,
		`d`:                 `[bz]`,
		`n::e`:              `[ce]`,
	} {
		g, f := sample.Join("a", `module m; import n; a = `+body+`; b = "b"; c = "y"?; d = b / "z" / d;`, `module n; import m; e = "e" / "c" m::b;`)
		if f.Err != api.OK {
			t.Fatalf("%s: %v", body, f)
		}
		if got := quote.Class(First(g)[g.Heads[0].Body]); got != want {
			t.Errorf("%s: %s", body, got)
		}
	}
}

// TestByTheRules: each node's bytes are those that the rules tell of the others', and none without a leaf that begins with it.
func TestByTheRules(t *testing.T) {
	for i := range 300 {
		g, f := joint.Join(sample.Modules(rand.New(rand.NewSource(int64(i))).Intn), "r0")
		if f.Err != api.OK {
			continue
		}
		sets, nullable := First(g), empty.Nullable(g)
		if len(sets) != len(g.Nodes) {
			t.Fatal("a set for each node")
		}
		for n := range g.Nodes {
			met := make([]bool, len(g.Nodes))
			if want := reach(g, nullable, met, n); sets[n] != want {
				t.Errorf("%d: the node %d: %s, not %s", i, n, quote.Class(sets[n]), quote.Class(want))
			}
		}
	}
}

// reach finds the bytes by going down to all leaves that may come first, each node once.
func reach(g api.Grammar, nullable, met []bool, n int) api.Set {
	if met[n] {
		return api.Set{}
	}
	met[n] = true
	x := g.Nodes[n]
	var s api.Set
	switch x.Op {
	case api.OpLit:
		s = alphabet.With(s, x.Text[0])
	case api.OpClass:
		s = x.Set
	case api.OpAny, api.OpSea:
		s = alphabet.Not(s)
	case api.OpRef:
		s = reach(g, nullable, met, empty.Body(g, n))
	case api.OpAnd, api.OpNot:
	default:
		for _, k := range x.Kids {
			s = alphabet.Or(s, reach(g, nullable, met, k))
			if x.Op == api.OpSeq && !nullable[k] {
				break
			}
		}
	}
	return s
}

func TestExample(t *testing.T) {
	g, _ := sample.Join("call", `module m; call = name:id "("; id = [a-z]+;`)
	if s := First(g)[g.Heads[0].Body]; s != alphabet.Range('a', 'z') {
		t.Errorf("a call begins with a letter: %s", quote.Class(s))
	}
	if len(First(api.Grammar{})) != 0 {
		t.Error("there are no nodes")
	}
}
