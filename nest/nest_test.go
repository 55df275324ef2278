package nest

import (
	"math"
	"math/rand"
	"slices"
	"testing"

	"eyot/api"
)

func leaf(kind int, name string, from, to, up int) api.Leaf {
	return api.Leaf{Kind: kind, Name: name, From: from, To: to, Up: up}
}

func holds(t *testing.T, n *Nest, top int, want ...api.Leaf) {
	t.Helper()
	if got := n.Tree(); !slices.Equal(got, want) {
		t.Errorf("%v, not %v", got, want)
	}
	if got := n.Mark(); got != (Mark{len(want), top}) {
		t.Errorf("%v, not %d, %d", got, len(want), top)
	}
}

func TestNodesAsTheyCome(t *testing.T) {
	n := New()
	holds(t, n, -1)
	if n.Close(3) {
		t.Error("none is open")
	}
	n.Leaf(4, 0, 2)
	n.Open(1, "a", 2)
	n.Open(2, "b", 3)
	holds(t, n, 2, leaf(4, "", 0, 2, -1), leaf(1, "a", 2, 2, -1), leaf(2, "b", 3, 3, 1))
	n.Leaf(5, 3, 7)
	if !n.Close(8) {
		t.Error("b is open")
	}
	n.Leaf(4, 8, 9)
	holds(t, n, 1, leaf(4, "", 0, 2, -1), leaf(1, "a", 2, 2, -1), leaf(2, "b", 3, 8, 1), leaf(5, "", 3, 7, 2), leaf(4, "", 8, 9, 1))
	if !n.Close(-5) || n.Close(1) {
		t.Error("a was open, and nothing then")
	}
	n.Open(math.MinInt, "", math.MaxInt)
	holds(t, n, 5, leaf(4, "", 0, 2, -1), leaf(1, "a", 2, -5, -1), leaf(2, "b", 3, 8, 1), leaf(5, "", 3, 7, 2), leaf(4, "", 8, 9, 1), leaf(math.MinInt, "", math.MaxInt, math.MaxInt, -1))
}

func TestCloseOfTheFirst(t *testing.T) {
	n := New()
	n.Open(1, "a", 2)
	if !n.Close(5) || n.Close(6) {
		t.Error("one was open")
	}
	holds(t, n, -1, leaf(1, "a", 2, 5, -1))
}

// three makes a nest of an open a, in it a leaf, and an open b.
func three() *Nest {
	n := New()
	n.Open(1, "a", 0)
	n.Leaf(4, 0, 1)
	n.Open(2, "b", 1)
	return n
}

func TestBack(t *testing.T) {
	a, x, b := leaf(1, "a", 0, 0, -1), leaf(4, "", 0, 1, 0), leaf(2, "b", 1, 1, 0)
	for _, c := range []struct {
		m    Mark
		top  int
		want []api.Leaf
	}{
		{Mark{3, 2}, 2, []api.Leaf{a, x, b}}, {Mark{3, 1}, 1, []api.Leaf{a, x, b}}, {Mark{3, -1}, -1, []api.Leaf{a, x, b}}, {Mark{2, 0}, 0, []api.Leaf{a, x}},
		{Mark{1, 0}, 0, []api.Leaf{a}}, {Mark{1, -1}, -1, []api.Leaf{a}}, {Mark{0, -1}, -1, nil},
		{Mark{4, 0}, 2, []api.Leaf{a, x, b}}, {Mark{-1, -1}, 2, []api.Leaf{a, x, b}}, {Mark{2, 2}, 2, []api.Leaf{a, x, b}}, {Mark{0, 0}, 2, []api.Leaf{a, x, b}},
		{Mark{2, -2}, 2, []api.Leaf{a, x, b}}, {Mark{math.MaxInt, math.MaxInt}, 2, []api.Leaf{a, x, b}}, {Mark{math.MinInt, math.MinInt}, 2, []api.Leaf{a, x, b}},
	} {
		n := three()
		n.Back(c.m)
		holds(t, n, c.top, c.want...)
	}
}

func TestPart(t *testing.T) {
	for _, c := range []struct {
		m    Mark
		want []api.Leaf
	}{
		{Mark{0, -1}, []api.Leaf{leaf(1, "a", 0, 0, -1), leaf(4, "", 0, 1, 0), leaf(2, "b", 1, 1, 0)}},
		{Mark{1, 0}, []api.Leaf{leaf(4, "", 0, 1, -1), leaf(2, "b", 1, 1, -1)}},
		{Mark{1, -1}, []api.Leaf{leaf(4, "", 0, 1, -1), leaf(2, "b", 1, 1, -1)}},
		{Mark{2, 1}, []api.Leaf{leaf(2, "b", 1, 1, -1)}}, // its Up less by 2 would be -2
		{Mark{3, 2}, nil}, {Mark{4, 2}, nil}, {Mark{-1, -1}, nil}, {Mark{1, 1}, nil}, {Mark{1, -2}, nil}, {Mark{math.MinInt, -1}, nil},
	} {
		n := three()
		got := n.Part(c.m)
		if !slices.Equal(got, c.want) {
			t.Errorf("Part(%v) = %v", c.m, got)
		}
		for i := range got {
			got[i].Kind = 77
		}
		holds(t, n, 2, three().Tree()...)
	}
}

func TestAdd(t *testing.T) {
	part := []api.Leaf{leaf(1, "p", 0, 5, -1), leaf(4, "q", 0, 1, 0), leaf(4, "", 1, 2, 2), leaf(4, "", 2, 3, 99), leaf(2, "r", 3, 5, 1), leaf(4, "", 3, 5, math.MinInt)}
	kept := slices.Clone(part)
	n := three()
	n.Add(part)
	want := append(three().Tree(), leaf(1, "p", 0, 5, 2), leaf(4, "q", 0, 1, 3), leaf(4, "", 1, 2, 2), leaf(4, "", 2, 3, 2), leaf(2, "r", 3, 5, 4), leaf(4, "", 3, 5, 2))
	holds(t, n, 2, want...)
	if !slices.Equal(part, kept) {
		t.Error("the part was changed")
	}
	n = New()
	n.Add(part[2:3])
	n.Add(nil)
	holds(t, n, -1, leaf(4, "", 1, 2, -1))
}

func TestTreeIsNewMemory(t *testing.T) {
	n := three()
	tree := n.Tree()
	n.Close(9)
	n.Back(Mark{1, 0})
	n.Leaf(5, 5, 5)
	if !slices.Equal(tree, three().Tree()) {
		t.Error("what was answered is changed")
	}
	tree[0].Kind = 77
	if n.Tree()[0].Kind != 1 {
		t.Error("the nest is changed")
	}
}

// grow adds some nodes, and closes as many as it opens.
func grow(r *rand.Rand, n *Nest, deep int) {
	for range r.Intn(4) {
		switch r.Intn(3) {
		case 0:
			n.Leaf(r.Intn(5), r.Intn(9), r.Intn(9))
		case 1:
			n.Open(r.Intn(5), "o", r.Intn(9))
			if deep > 0 {
				grow(r, n, deep-1)
			}
			n.Close(r.Intn(9))
		}
	}
}

func TestTakenBack(t *testing.T) {
	for i := range 2000 {
		r := rand.New(rand.NewSource(int64(i)))
		n := New()
		for range r.Intn(4) {
			grow(r, n, 2)
			n.Open(1, "open", r.Intn(9))
		}
		m, before := n.Mark(), n.Tree()
		grow(r, n, 4)
		part, after := n.Part(m), n.Tree()
		for range r.Intn(3) {
			n.Open(2, "more", 0)
		}
		n.Back(m)
		if n.Mark() != m || !slices.Equal(n.Tree(), before) {
			t.Fatalf("%d: it isn't as it was", i)
		}
		n.Add(part)
		if !slices.Equal(n.Tree(), after) || n.Mark().Top != m.Top {
			t.Fatalf("%d: with its part it isn't as it was then", i)
		}
	}
}
