package axis

import (
	"math"
	"math/rand"
	"slices"
	"testing"

	"eyot/api"
)

// ups makes nodes with these Ups.
func ups(l ...int) []api.Leaf {
	nodes := make([]api.Leaf, len(l))
	for i, up := range l {
		nodes[i].Up = up
	}
	return nodes
}

var tree = ups(-1, 0, 1, 0, 3, 3, -1, 6)

var noTrees = [][]api.Leaf{ups(0), ups(-2), ups(-1, 1), ups(-1, 2, 0), ups(-1, 0, math.MaxInt), ups(-1, math.MinInt), ups(3, 3, 3, 3)}

func TestRight(t *testing.T) {
	for _, l := range [][]api.Leaf{nil, {}, tree, ups(-1), ups(-1, -1, 1, 2)} {
		if !Right(l) {
			t.Errorf("%v is a tree", l)
		}
	}
	for _, l := range noTrees {
		if Right(l) {
			t.Errorf("%v is no tree", l)
		}
	}
}

func TestWays(t *testing.T) {
	for _, c := range []struct {
		i                     int
		kids, below, up, next []int
	}{
		{-1, []int{0, 6}, []int{0, 1, 2, 3, 4, 5, 6, 7}, nil, nil},
		{0, []int{1, 3}, []int{1, 2, 3, 4, 5}, nil, []int{6}},
		{1, []int{2}, []int{2}, []int{0}, []int{3}},
		{2, nil, nil, []int{1}, nil},
		{3, []int{4, 5}, []int{4, 5}, []int{0}, nil},
		{4, nil, nil, []int{3}, []int{5}},
		{5, nil, nil, []int{3}, nil},
		{6, []int{7}, []int{7}, nil, nil},
		{7, nil, nil, []int{6}, nil},
		{8, nil, nil, nil, nil}, {-2, nil, nil, nil, nil}, {math.MaxInt, nil, nil, nil, nil}, {math.MinInt, nil, nil, nil, nil},
	} {
		if got := Kids(tree, c.i); !slices.Equal(got, c.kids) {
			t.Errorf("Kids of %d: %v", c.i, got)
		}
		if got := Below(tree, c.i); !slices.Equal(got, c.below) {
			t.Errorf("Below %d: %v", c.i, got)
		}
		if got := Up(tree, c.i); !slices.Equal(got, c.up) {
			t.Errorf("Up of %d: %v", c.i, got)
		}
		if got := Next(tree, c.i); !slices.Equal(got, c.next) {
			t.Errorf("Next of %d: %v", c.i, got)
		}
	}
}

func TestWaysOfNoTree(t *testing.T) {
	l := ups(3, -2, 3, 1, 99, -2)
	for _, c := range []struct {
		i              int
		kids, up, next []int
	}{
		{-2, nil, nil, nil}, {-1, nil, nil, nil}, {0, nil, []int{3}, []int{2}}, {1, []int{3}, nil, []int{5}}, {2, nil, []int{3}, nil},
		{3, []int{0, 2}, []int{1}, nil}, {4, nil, []int{99}, nil}, {99, []int{4}, nil, nil},
	} {
		if got := Kids(l, c.i); !slices.Equal(got, c.kids) {
			t.Errorf("Kids of %d: %v", c.i, got)
		}
		if got := Up(l, c.i); !slices.Equal(got, c.up) {
			t.Errorf("Up of %d: %v", c.i, got)
		}
		if got := Next(l, c.i); !slices.Equal(got, c.next) {
			t.Errorf("Next of %d: %v", c.i, got)
		}
	}
	for _, l := range noTrees {
		for i := -3; i < len(l)+2; i++ {
			if len(Below(l, i)) != 0 {
				t.Errorf("Below %d of %v", i, l)
			}
		}
	}
}

func TestText(t *testing.T) {
	for _, c := range []struct {
		from, to int
		want     string
	}{
		{0, 3, "abc"}, {1, 2, "b"}, {-4, 2, "ab"}, {1, 99, "bc"}, {math.MinInt, math.MaxInt, "abc"}, {1, 1, ""}, {2, 1, ""}, {3, 9, ""}, {9, 12, ""}, {-9, -1, ""}, {math.MaxInt, math.MinInt, ""},
	} {
		if got := Text([]api.Leaf{{}, {From: c.from, To: c.to}}, "abc", 1); got != c.want {
			t.Errorf("%d to %d: %q", c.from, c.to, got)
		}
	}
	if got := Text([]api.Leaf{{To: 2}}, "abc", 0); got != "ab" {
		t.Errorf("of the first node: %q", got)
	}
	for _, i := range []int{-1, 1, math.MaxInt, math.MinInt} {
		if got := Text([]api.Leaf{{To: 3}}, "abc", i); got != "" {
			t.Errorf("there is no node %d: %q", i, got)
		}
	}
}

func TestLeaves(t *testing.T) {
	var l []api.Leaf
	for _, kind := range []int{1, 4, 5, 2, 3, 4, 0, 6, -4, 5} {
		l = append(l, api.Leaf{Kind: kind, Up: 77})
	}
	if got := Leaves(l); !slices.Equal(got, []int{1, 2, 5, 9}) {
		t.Errorf("%v", got)
	}
	if len(Leaves(nil)) != 0 {
		t.Error("there are none")
	}
}

// TestBothWays: a node is in that which leads up from it.
func TestBothWays(t *testing.T) {
	r := rand.New(rand.NewSource(25))
	for range 300 {
		var l []api.Leaf
		for i := range r.Intn(20) {
			l = append(l, api.Leaf{Up: r.Intn(i+1) - 1})
		}
		for i := -1; i < len(l); i++ {
			for k := range l {
				in, above := false, l[k].Up
				for j := k; j >= 0 && !in; j = l[j].Up {
					in = l[j].Up == i
				}
				if slices.Contains(Below(l, i), k) != in || slices.Contains(Kids(l, i), k) != (above == i) {
					t.Fatalf("%v: %d, %d", l, i, k)
				}
				if i >= 0 && slices.Contains(Up(l, k), i) != (above == i) {
					t.Fatalf("%v: up from %d", l, k)
				}
				if i >= 0 && slices.Contains(Next(l, i), k) != (k > i && above == l[i].Up) {
					t.Fatalf("%v: next of %d", l, i)
				}
			}
		}
	}
}
