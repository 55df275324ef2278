package session

import (
	"reflect"
	"strings"
	"testing"

	"eyot/api"
	"eyot/dialect"
	"eyot/joint"
	"eyot/listing"
	"eyot/lower"
)

const mText = `module m;
import n;
water = "#" (!"#" .)* "#";
main = (~call~)*;
call = name:n::id "(" (!")" .)* ")";
`

const nText = `module n;
id = [a-z]+;
`

const input = "x #f(a)# foo(b) y"

func act(kind int, text string) api.Act { return api.Act{Kind: kind, Text: text} }

func number(n int) api.Reply { return api.Reply{N: n} }

func fault(err api.Errno, at, module, rule int) api.Reply {
	return api.Reply{Fault: api.Fault{Err: err, At: at, Module: module, Rule: rule}}
}

// holds does acts in a session, and tells whether the last one comes to that.
func holds(t *testing.T, s *Session, want api.Reply, acts ...api.Act) {
	t.Helper()
	var got api.Reply
	for _, a := range acts {
		got = s.Do(a)
	}
	if len(got.Rows) == 0 {
		got.Rows = nil
	}
	if !reflect.DeepEqual(got, want) {
		t.Errorf("%v: %v, not %v", acts, got, want)
	}
}

// linked answers a session with the two modules, linked.
func linked() *Session {
	s := New()
	s.Do(act(api.ActLoad, mText))
	s.Do(act(api.ActLoad, nText))
	s.Do(act(api.ActLink, "main"))
	return s
}

func TestTenExamples(t *testing.T) {
	s := New()
	holds(t, s, number(1), act(api.ActLoad, mText))
	holds(t, s, number(2), act(api.ActLoad, nText))
	holds(t, s, number(24), act(api.ActLink, "main"))
	holds(t, s, number(17), act(api.ActParse, input))
	holds(t, s, api.Reply{N: 1, Rows: []api.Row{{From: 9, To: 12, Spot: api.Spot{Line: 1, Column: 10}, Text: "foo"}}}, act(api.ActAsk, "//name"))
	holds(t, s, api.Reply{N: 1, Rows: []api.Row{{From: 15, To: 17, Spot: api.Spot{Line: 1, Column: 16}, Text: " y"}}}, act(api.ActAsk, "//#water[2]"))
	holds(t, s, api.Reply{N: 1, Rows: []api.Row{{From: 9, To: 12, Spot: api.Spot{Line: 1, Column: 10}, Text: "foo"}}}, act(api.ActAsk, "//id^*"))
	holds(t, s, fault(api.ErrName, 0, 0, 0), act(api.ActAsk, "//x"))
	holds(t, s, fault(api.ErrFail, 6, 0, 0), act(api.ActParse, "no one"))
	holds(t, New(), fault(api.ErrName, 0, 0, -1), act(api.ActLoad, mText), act(api.ActLink, "main"))
	empty := strings.Replace(mText, "(~call~)*", `(~call~ / "x"?)*`, 1)
	holds(t, New(), fault(api.ErrEmpty, 0, 0, 0), act(api.ActLoad, empty), act(api.ActLoad, nText), act(api.ActLink, "main"))
	left := mText[:strings.Index(mText, "call = ")] + `call = call "x";`
	holds(t, New(), fault(api.ErrLeft, 0, 0, 1), act(api.ActLoad, left), act(api.ActLoad, nText), act(api.ActLink, "main"))
	holds(t, New(), fault(api.ErrTwice, len(mText), 0, 0), act(api.ActLoad, mText+"main = .;"))
}

func TestLoad(t *testing.T) {
	s := New()
	holds(t, s, fault(api.ErrForm, 8, 0, 0), act(api.ActLoad, "module m"))
	holds(t, s, fault(api.ErrLarge, 4000, 0, 0), act(api.ActLoad, strings.Repeat(" ", 4001)))
	holds(t, s, number(1), act(api.ActLoad, "module a;"))
	holds(t, s, fault(api.ErrTwice, 0, 0, 0), act(api.ActLoad, "module a; x = .;"))
	holds(t, s, number(4), act(api.ActLoad, "module b;"), act(api.ActLoad, "module c;"), act(api.ActLoad, "module d;"))
	holds(t, s, fault(api.ErrLarge, 0, 0, 0), act(api.ActLoad, "module e;"))
	holds(t, s, fault(api.ErrTwice, 0, 0, 0), act(api.ActLoad, "module b;"))
	holds(t, s, fault(api.ErrForm, 7, 0, 0), act(api.ActLoad, "module ;"))
}

func TestLink(t *testing.T) {
	s := New()
	holds(t, s, fault(api.ErrName, 0, -1, -1), act(api.ActLink, "main"))
	s = linked()
	holds(t, s, number(3), act(api.ActLink, "n::id"))
	holds(t, s, number(4), act(api.ActParse, "abcd"))
	holds(t, s, fault(api.ErrName, 0, -1, -1), act(api.ActLink, "nothing"))
	holds(t, s, api.Reply{N: 1, Rows: []api.Row{{To: 4, Spot: api.Spot{Line: 1, Column: 1}, Text: "abcd"}}}, act(api.ActAsk, "/id"))
	holds(t, s, number(3), act(api.ActLoad, "module o; main = .;"))
	holds(t, s, number(1), act(api.ActAsk, "/id"), act(api.ActParse, "b"))
	holds(t, s, fault(api.ErrArg, 0, 0, 0), act(api.ActLink, "o::main"), act(api.ActAsk, "/*"))
	holds(t, s, number(1), act(api.ActParse, "\xff"))
}

func TestParse(t *testing.T) {
	holds(t, New(), fault(api.ErrArg, 0, 0, 0), act(api.ActParse, input))
	holds(t, New(), fault(api.ErrArg, 0, 0, 0), act(api.ActLoad, nText), act(api.ActParse, "a"))
	s := linked()
	s.Do(act(api.ActLink, "n::id"))
	holds(t, s, fault(api.ErrFail, 2, 0, 0), act(api.ActParse, "ab cd"))
	holds(t, s, number(2), api.Act{Kind: api.ActParse, Text: "ab cd", N: 1})
	holds(t, s, number(2), api.Act{Kind: api.ActParse, Text: "ab cd", N: -7})
	holds(t, s, fault(api.ErrLarge, 0, 0, 0), act(api.ActParse, strings.Repeat("a", 2001)))
	holds(t, s, fault(api.ErrFail, 0, 0, 0), api.Act{Kind: api.ActParse, Text: " ", N: 1})
	holds(t, s, api.Reply{N: 1, Rows: []api.Row{{To: 2, Spot: api.Spot{Line: 1, Column: 1}, Text: "ab"}}}, act(api.ActAsk, "/*"))
	holds(t, s, number(2000), act(api.ActParse, strings.Repeat("a", 2000)))
}

func TestAsk(t *testing.T) {
	s := New()
	holds(t, s, fault(api.ErrArg, 0, 0, 0), act(api.ActAsk, "$"))
	s = linked()
	holds(t, s, fault(api.ErrArg, 0, 0, 0), act(api.ActAsk, "//name"))
	holds(t, s, fault(api.ErrArg, 0, 0, 0), act(api.ActParse, "no call"), act(api.ActAsk, "//name"))
	s.Do(act(api.ActParse, "a(\n)\nbb(c)!"))
	holds(t, s, fault(api.ErrForm, 6, 0, 0), act(api.ActAsk, "//name$"))
	holds(t, s, fault(api.ErrLarge, 24, 0, 0), act(api.ActAsk, strings.Repeat("/*", 13)))
	holds(t, s, fault(api.ErrName, 0, 1, 2), act(api.ActAsk, "/main|/*/*/water2"))
	holds(t, s, number(0), act(api.ActAsk, "/name"))
	want := api.Reply{N: 3, Rows: []api.Row{
		{From: 0, To: 4, Spot: api.Spot{Line: 1, Column: 1}, Text: "a(\n)"},
		{From: 4, To: 5, Spot: api.Spot{Line: 2, Column: 2}, Text: "\n"},
		{From: 5, To: 10, Spot: api.Spot{Line: 3, Column: 1}, Text: "bb(c)"},
	}}
	holds(t, s, want, act(api.ActAsk, `//call|//#water="\n"|//call`))
}

func TestDropAndOthers(t *testing.T) {
	s := linked()
	s.Do(act(api.ActParse, input))
	for _, kind := range []int{0, 6, -1, 1 << 40} {
		holds(t, s, fault(api.ErrArg, 0, 0, 0), act(kind, "main"))
	}
	holds(t, s, number(17), act(api.ActParse, input))
	holds(t, s, api.Reply{}, api.Act{Kind: api.ActDrop, Text: "what so ever", N: 7})
	holds(t, s, fault(api.ErrArg, 0, 0, 0), act(api.ActAsk, "/*"))
	holds(t, s, fault(api.ErrArg, 0, 0, 0), act(api.ActParse, input))
	holds(t, s, fault(api.ErrName, 0, -1, -1), act(api.ActLink, "main"))
	holds(t, s, number(1), act(api.ActLoad, nText))
	if s.Listing() != "" {
		t.Error("nothing is left")
	}
}

func TestCounts(t *testing.T) {
	s := New()
	if s.Count() != 0 || s.Made() != 0 || s.Listing() != "" || s.Made() != 0 {
		t.Error("a new session has none")
	}
	s.Do(act(api.ActLoad, mText))
	s.Do(act(api.ActLoad, nText))
	s.Do(act(99, ""))
	s.Do(act(api.ActLink, "main"))
	if s.Count() != 4 || s.Made() != 0 {
		t.Errorf("%d acts, %d listings", s.Count(), s.Made())
	}
	text := s.Listing()
	if text != s.Listing() || s.Made() != 1 || text != expected(t, "main") {
		t.Errorf("%d listings: %s", s.Made(), text)
	}
	s.Do(act(api.ActLink, "nothing"))
	if s.Listing() != text || s.Made() != 1 {
		t.Error("beside a fault the code stays")
	}
	s.Do(act(api.ActLink, "main"))
	s.Do(act(api.ActLink, "n::id"))
	if s.Made() != 1 || s.Listing() != expected(t, "n::id") || s.Made() != 2 {
		t.Errorf("once for each link that is asked for: %d", s.Made())
	}
	s.Do(act(api.ActDrop, ""))
	if s.Count() != 8 || s.Made() != 2 || s.Listing() != "" || s.Made() != 2 {
		t.Errorf("behind a drop: %d acts, %d listings", s.Count(), s.Made())
	}
}

// expected answers the listing, made layer by layer.
func expected(t *testing.T, start string) string {
	t.Helper()
	m, _ := dialect.Parse(mText)
	n, _ := dialect.Parse(nText)
	g, _ := joint.Join([]api.Module{m, n}, start)
	c, f := lower.Lower(g)
	if f != (api.Fault{}) {
		t.Fatal(f)
	}
	return listing.Print(c)
}

func TestPlay(t *testing.T) {
	acts := []api.Act{act(api.ActParse, input), act(api.ActLoad, mText), act(api.ActLoad, nText), act(api.ActLink, "main"), act(api.ActParse, input), act(api.ActAsk, "//call"), act(9, ""), act(api.ActDrop, ""), act(api.ActAsk, "//call")}
	s := New()
	var want []api.Reply
	for _, a := range acts {
		want = append(want, s.Do(a))
	}
	for range 2 {
		if got := Play(acts); !reflect.DeepEqual(got, want) {
			t.Errorf("%v, not %v", got, want)
		}
	}
	if len(Play(nil)) != 0 {
		t.Error("no acts, no replies")
	}
}

// TestOwnMemory: rows that were answered may be changed.
func TestOwnMemory(t *testing.T) {
	s := linked()
	s.Do(act(api.ActParse, input))
	rows := s.Do(act(api.ActAsk, "//*")).Rows
	kept := append([]api.Row(nil), rows...)
	for i := range rows {
		rows[i] = api.Row{}
	}
	if got := s.Do(act(api.ActAsk, "//*")).Rows; !reflect.DeepEqual(got, kept) {
		t.Errorf("%v", got)
	}
}
