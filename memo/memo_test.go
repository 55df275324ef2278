package memo

import (
	"math"
	"math/rand"
	"reflect"
	"slices"
	"testing"

	"eyot/api"
)

func memory(ins, at, end int) api.Memory {
	return api.Memory{Ins: ins, At: at, Ok: end%2 == 0, End: end, Far: -end, Part: []api.Leaf{{Kind: end, Name: "n", Up: -1}}}
}

func TestPutAndGet(t *testing.T) {
	m := New(10)
	if x, ok := m.Get(0, 0); ok || !reflect.DeepEqual(x, api.Memory{}) || m.Len() != 0 {
		t.Error("a new memo knows nothing")
	}
	for i, k := range [][2]int{{0, 0}, {0, 1}, {1, 0}, {-1, 5}, {math.MaxInt, math.MinInt}} {
		x := memory(k[0], k[1], i)
		m.Put(x)
		if got, ok := m.Get(k[0], k[1]); !ok || !reflect.DeepEqual(got, x) || m.Len() != i+1 {
			t.Errorf("%v: %v, %v", k, got, ok)
		}
	}
	for _, k := range [][2]int{{1, 1}, {5, -1}, {2, 0}} {
		if x, ok := m.Get(k[0], k[1]); ok || !reflect.DeepEqual(x, api.Memory{}) {
			t.Errorf("%v isn't known: %v", k, x)
		}
	}
	m.Put(memory(1, 0, 9))
	if got, ok := m.Get(1, 0); !ok || !reflect.DeepEqual(got, memory(1, 0, 9)) || m.Len() != 5 {
		t.Errorf("put again: %v", got)
	}
	m.Put(api.Memory{Ins: 7, At: 7})
	if got, ok := m.Get(7, 7); !ok || len(got.Part) != 0 || got.Ok || got.End != 0 {
		t.Errorf("without a part: %v", got)
	}
}

func TestEldestGoes(t *testing.T) {
	m := New(2)
	m.Put(memory(1, 0, 1))
	m.Put(memory(2, 0, 2))
	m.Put(memory(1, 0, 3)) // as old as the one in whose place it is
	m.Get(1, 0)            // asking makes none younger
	m.Put(memory(3, 0, 4))
	if _, ok := m.Get(1, 0); ok || m.Len() != 2 {
		t.Error("the eldest one goes")
	}
	m.Put(memory(1, 0, 5))
	if _, ok := m.Get(2, 0); ok {
		t.Error("now another is the eldest one")
	}
	if got, ok := m.Get(1, 0); !ok || got.End != 5 {
		t.Error("what went may come again")
	}
}

func TestNoneAtAll(t *testing.T) {
	for _, most := range []int{0, -1, math.MinInt} {
		m := New(most)
		m.Put(memory(1, 1, 1))
		if _, ok := m.Get(1, 1); ok || m.Len() != 0 {
			t.Errorf("a memo of %d keeps none", most)
		}
	}
	m := New(math.MaxInt)
	for i := range 1000 {
		m.Put(memory(i, 0, i))
	}
	if m.Len() != 1000 {
		t.Error("all are kept")
	}
}

// TestOwnMemory: what is handed in, or out, may be changed afterwards.
func TestOwnMemory(t *testing.T) {
	m := New(3)
	x := memory(1, 1, 2)
	m.Put(x)
	x.Part[0].Kind = 77
	got, _ := m.Get(1, 1)
	if !reflect.DeepEqual(got, memory(1, 1, 2)) {
		t.Error("changed by what was put")
	}
	got.Part[0].Kind = 88
	if again, _ := m.Get(1, 1); !reflect.DeepEqual(again, memory(1, 1, 2)) {
		t.Error("changed by what was answered")
	}
}

// TestTheLastOnes holds a memo against a list.
func TestTheLastOnes(t *testing.T) {
	r := rand.New(rand.NewSource(20))
	for most := range 12 {
		m := New(most)
		var list []api.Memory
		for range 2000 {
			x := memory(r.Intn(5), r.Intn(4), r.Intn(100))
			i := slices.IndexFunc(list, func(y api.Memory) bool { return y.Ins == x.Ins && y.At == x.At })
			if i >= 0 {
				list[i] = x
			} else {
				list = append(list, x)
			}
			list = list[max(0, len(list)-most):]
			m.Put(x)
			if m.Len() != len(list) {
				t.Fatalf("%d are known, not %d", m.Len(), len(list))
			}
			for k := range 20 {
				got, ok := m.Get(k/4, k%4)
				i := slices.IndexFunc(list, func(y api.Memory) bool { return y.Ins == k/4 && y.At == k%4 })
				if ok != (i >= 0) || ok && !reflect.DeepEqual(got, list[i]) || !ok && !reflect.DeepEqual(got, api.Memory{}) {
					t.Fatalf("%d, %d: %v, %v", k/4, k%4, got, ok)
				}
			}
		}
	}
}
