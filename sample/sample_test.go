package sample

import (
	"math/rand"
	"testing"

	"eyot/api"
	"eyot/joint"
)

func TestModulesCanBeJoined(t *testing.T) {
	joined := 0
	for i := range 500 {
		r := rand.New(rand.NewSource(int64(i)))
		if g, f := joint.Join(Modules(r.Intn), "r0"); f.Err == api.OK && g.Heads[g.Start].Name == "r0" {
			joined++
		} else if f.Err != api.ErrLarge {
			t.Fatalf("%d: %v", i, f)
		}
	}
	if joined < 450 {
		t.Errorf("only %d were joined", joined)
	}
}

func TestJoin(t *testing.T) {
	if g, f := Join("a", "module m; import n; a = b;", "module n; b = .;"); f.Err != api.OK || len(g.Nodes) != 2 {
		t.Errorf("%v, %v", g, f)
	}
	if _, f := Join("a", "module m"); f.Err != api.ErrForm {
		t.Errorf("%v", f)
	}
}
