package listing

import (
	"math"
	"math/rand"
	"strings"
	"testing"

	"eyot/alphabet"
	"eyot/api"
	"eyot/joint"
	"eyot/lower"
	"eyot/sample"
)

// good answers a code with an instruction of each op.
func good() api.Code {
	ins := func(op int, text string, kids ...int) api.Ins {
		return api.Ins{Op: op, Text: text, Kids: kids, Water: -1, First: alphabet.Range(1, byte(op))}
	}
	class := ins(api.OpClass, "")
	class.Set = alphabet.Range('a', 'f')
	sea := ins(api.OpSea, "", 1)
	sea.Next, sea.Water = []int{4, 2, 4}, 3
	dry := ins(api.OpSea, "", 14)
	star := ins(api.OpStar, "", 4)
	star.Empty = true
	return api.Code{List: []api.Ins{
		ins(api.OpRef, "main", 4), ins(api.OpLit, "x\"\n"), class, ins(api.OpAny, ""), ins(api.OpSeq, "", 1, 2, 3), ins(api.OpChoice, "", 4, 1),
		star, ins(api.OpPlus, "", 1), ins(api.OpOpt, "", 2), ins(api.OpAnd, "", 3), ins(api.OpNot, "", 4), ins(api.OpRef, "call", 5), ins(api.OpLabel, "name", 11),
		sea, dry,
	}}
}

const goodText = `0 ref main 4 first 11
1 lit "x\"\n" first 1
2 class [a-f] first 2
3 any first 3
4 seq 1 2 3 first 4
5 choice 4 1 first 5
6 star 4 empty
7 plus 1 first 7
8 opt 2 first 8
9 and 3 first 9
10 not 4 first 10
11 ref call 5 first 11
12 label name 11 first 12
13 sea 1 next 4 2 4 water 3 first 13
14 sea 14 next first 13
`

func TestPrint(t *testing.T) {
	if c := good(); !Right(c) || Print(c) != goodText {
		t.Errorf("%s", Print(c))
	}
	c := good()
	c.List[13].Water, c.List[13].Empty, c.List[3].First = 0, true, api.Set{}
	got := Print(c)
	if !strings.Contains(got, "\n13 sea 1 next 4 2 4 water 0 empty\n") || !strings.Contains(got, "\n3 any first 0\n") {
		t.Errorf("%s", got)
	}
}

func TestWhatMayNotBe(t *testing.T) {
	set := func(l ...int) []int { return l }
	for i, change := range []func(l []api.Ins){
		func(l []api.Ins) { l[0] = l[1] },
		func(l []api.Ins) { l[0] = l[12] },
		func(l []api.Ins) { l[3].Op = 0 },
		func(l []api.Ins) { l[3].Op = 14 },
		func(l []api.Ins) { l[3].Op = math.MaxInt },
		func(l []api.Ins) { l[3].Op = math.MinInt },
		func(l []api.Ins) { l[4].Kids = set(1, 15) },
		func(l []api.Ins) { l[4].Kids = set(1, -1) },
		func(l []api.Ins) { l[4].Kids = set(1) },
		func(l []api.Ins) { l[5].Kids = nil },
		func(l []api.Ins) { l[6].Kids = set(1, 2) },
		func(l []api.Ins) { l[7].Kids = nil },
		func(l []api.Ins) { l[8].Kids = set(1, 2) },
		func(l []api.Ins) { l[9].Kids = set() },
		func(l []api.Ins) { l[10].Kids = set(1, 1) },
		func(l []api.Ins) { l[0].Kids = nil },
		func(l []api.Ins) { l[11].Kids = set(1, 2) },
		func(l []api.Ins) { l[12].Kids = set() },
		func(l []api.Ins) { l[13].Kids = set(1, 2) },
		func(l []api.Ins) { l[13].Next = set(4, 15) },
		func(l []api.Ins) { l[13].Next = set(-1) },
		func(l []api.Ins) { l[13].Water = 15 },
		func(l []api.Ins) { l[13].Water = -2 },
		func(l []api.Ins) { l[13].Water = math.MinInt },
		func(l []api.Ins) { l[12].Water = 0 },
		func(l []api.Ins) { l[1].Water = 1 },
		func(l []api.Ins) { l[4].Next = set(1) },
		func(l []api.Ins) { l[11].Next = set(1) },
		func(l []api.Ins) { l[1].Kids = set(1) },
		func(l []api.Ins) { l[2].Kids = set(1) },
		func(l []api.Ins) { l[3].Kids = set(1) },
		func(l []api.Ins) { l[1].Text = "" },
		func(l []api.Ins) { l[1].Text = strings.Repeat("a", 41) },
		func(l []api.Ins) { l[2].Text = "a" },
		func(l []api.Ins) { l[3].Text = "." },
		func(l []api.Ins) { l[6].Text = "a" },
		func(l []api.Ins) { l[13].Text = "a" },
		func(l []api.Ins) { l[11].Text = "m::call" },
		func(l []api.Ins) { l[0].Text = "" },
		func(l []api.Ins) { l[12].Text = "water" },
		func(l []api.Ins) { l[2].Set = api.Set{} },
		func(l []api.Ins) { l[1].Set = alphabet.Range(0, 0) },
		func(l []api.Ins) { l[13].Set = alphabet.Range(255, 255) },
	} {
		c := good()
		change(c.List)
		if Right(c) || Print(c) != "" {
			t.Errorf("the change %d may not be", i)
		}
	}
	if Right(api.Code{}) || Print(api.Code{}) != "" || Right(api.Code{List: []api.Ins{}}) {
		t.Error("one instruction at least")
	}
}

func TestWhatMayBe(t *testing.T) {
	c := good()
	c.List[1].Text = strings.Repeat("\xff", 40)
	c.List[0].Kids = []int{0}
	c.List[13].Next = nil
	c.List[4].Kids = []int{14, 14, 14, 14, 14}
	c.List[3].Kids, c.List[3].Next = []int{}, []int{}
	if !Right(c) {
		t.Error("this may be")
	}
	if !Right(api.Code{List: c.List[:1]}) || Right(api.Code{List: good().List[:1]}) {
		t.Error("one alone may lead to itself, and to no other")
	}
}

// TestItMayBe: a grammar's code may be.
func TestItMayBe(t *testing.T) {
	for i := range 400 {
		g, f := joint.Join(sample.Modules(rand.New(rand.NewSource(int64(i))).Intn), "r0")
		if f.Err != api.OK {
			continue
		}
		c, f := lower.Lower(g)
		if Right(c) != (f.Err == api.OK) || strings.Count(Print(c), "\n") != len(c.List) {
			t.Errorf("%d: %v, %s", i, f, Print(c))
		}
	}
}

func TestExample(t *testing.T) {
	g, _ := sample.Join("a", `module m; a = "y" "x";`)
	c, _ := lower.Lower(g)
	if got := Print(c); got != "0 ref a 1 first 1\n1 seq 2 3 first 1\n2 lit \"y\" first 1\n3 lit \"x\" first 1\n" {
		t.Errorf("%s", got)
	}
}
