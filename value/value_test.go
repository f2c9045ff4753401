package value

import (
	"math"
	"regexp"
	"strings"
	"testing"

	"hedgerow/api"
)

// The chapter's words as patterns, for holding the calls against what is written otherwise.
var (
	namePattern = regexp.MustCompile(`^[a-zA-Z][a-zA-Z0-9_]{0,15}$`)
	saysPattern = regexp.MustCompile(`^[\x20-\x7e]{0,64}$`)
	edgePattern = regexp.MustCompile(`^[a-zA-Z][a-zA-Z0-9_]{0,15}>[a-zA-Z][a-zA-Z0-9_]{0,15}>[a-zA-Z][a-zA-Z0-9_]{0,15}$`)
)

// texts are all texts of at most so many of the pieces.
func texts(pieces []string, most int) []string {
	all := []string{""}
	last := all
	for range most {
		var next []string
		for _, s := range last {
			for _, p := range pieces {
				next = append(next, s+p)
			}
		}
		all = append(all, next...)
		last = next
	}
	return all
}

// hostile are texts that are of no use anywhere, or just so.
func hostile() []string {
	l := []string{
		"", " ", "_", "9", "a", "a b", "a\n", "\x00", "\x1f", "~", "\x7f", "\x80", "\xff", "a\xff", "é", "aé", "a\u2028", "\xed\xa0\x80",
		"a>b", "a>b>c", "a>b>c>d", ">", ">>", ">>>", "a>>c", ">b>c", "a>b>", "a> b>c", "'", "''", "'''", `\`, `'\'`, `'\\'`, "(", "()", ")", "[", "[]",
		"null", "true", "false", "0", "-0", "-", "+1", "1e3", "0x1", "1_0", "9223372036854775807", "-9223372036854775808", "9223372036854775808",
	}
	for _, n := range []int{15, 16, 17, 50, 51, 63, 64, 65, 128, 129, 130, 131, 1 << 16} {
		l = append(l, strings.Repeat("a", n), strings.Repeat("'", n), strings.Repeat(`\`, n), strings.Repeat("é", n), strings.Repeat(">", n), "'"+strings.Repeat("a", n)+"'", "-"+strings.Repeat("9", n))
	}
	return l
}

// numbers are those at the edges.
func numbers() []int {
	return []int{0, 1, -1, 2, 5, 6, api.MaxNum, api.MaxNum - 1, api.MaxNum + 1, -api.MaxNum, -api.MaxNum - 1, math.MaxInt, math.MinInt}
}

// kinds are those that there are, and others.
func kinds() []int {
	return []int{api.Null, api.Bool, api.Int, api.Text, api.Node, api.Edge, -1, 6, 7, 256, math.MaxInt, math.MinInt}
}

func TestNameP1_1(t *testing.T) {
	for _, s := range []string{"a", "z", "A", "Z", "a0", "a9", "a_", "aA", "a__9", strings.Repeat("x", api.MaxName), "Z" + strings.Repeat("_", api.MaxName-1)} {
		if !Name(s) {
			t.Errorf("Name(%q) is false", s)
		}
	}
	for _, s := range []string{"", "_", "_a", "0", "9a", "a b", " a", "a ", "a-b", "a>b", "a'", `a\`, "a\n", "a\x00", "aé", "é", "a\x80", "\xffa", "ª", "a２", strings.Repeat("x", api.MaxName+1), strings.Repeat("x", 1<<20)} {
		if Name(s) {
			t.Errorf("Name(%q) is true", s)
		}
	}
}

func TestNameOfAllBytesP1_1(t *testing.T) {
	for b := range 256 {
		for _, s := range []string{string([]byte{byte(b)}), string([]byte{'a', byte(b)}), string([]byte{'a', byte(b), 'a'})} {
			if got, want := Name(s), namePattern.MatchString(s); got != want {
				t.Errorf("Name(%q) is %v", s, got)
			}
		}
	}
	for _, s := range hostile() {
		if got, want := Name(s), namePattern.MatchString(s); got != want {
			t.Errorf("Name(%q) is %v", s, got)
		}
	}
}

func TestRightP1_1(t *testing.T) {
	name, long := strings.Repeat("n", api.MaxName), strings.Repeat("n", api.MaxName+1)
	for _, c := range []struct {
		v    api.Value
		want bool
	}{
		{api.Value{}, true},
		{api.Value{Num: 1}, false},
		{api.Value{Num: -1}, false},
		{api.Value{Text: "a"}, false},
		{api.Value{Kind: api.Bool}, true},
		{api.Value{Kind: api.Bool, Num: 1}, true},
		{api.Value{Kind: api.Bool, Num: 2}, false},
		{api.Value{Kind: api.Bool, Num: -1}, false},
		{api.Value{Kind: api.Bool, Num: 1, Text: "a"}, false},
		{api.Value{Kind: api.Int}, true},
		{api.Value{Kind: api.Int, Num: api.MaxNum}, true},
		{api.Value{Kind: api.Int, Num: -api.MaxNum}, true},
		{api.Value{Kind: api.Int, Num: api.MaxNum + 1}, false},
		{api.Value{Kind: api.Int, Num: -api.MaxNum - 1}, false},
		{api.Value{Kind: api.Int, Num: math.MinInt}, false},
		{api.Value{Kind: api.Int, Num: 3, Text: "3"}, false},
		{api.Value{Kind: api.Text}, true},
		{api.Value{Kind: api.Text, Text: `it's "a\b" ~`}, true},
		{api.Value{Kind: api.Text, Text: strings.Repeat("'", api.MaxText)}, true},
		{api.Value{Kind: api.Text, Text: strings.Repeat(" ", api.MaxText+1)}, false},
		{api.Value{Kind: api.Text, Num: 1, Text: "a"}, false},
		{api.Value{Kind: api.Text, Text: "a\n"}, false},
		{api.Value{Kind: api.Text, Text: "é"}, false},
		{api.Value{Kind: api.Node, Text: name}, true},
		{api.Value{Kind: api.Node, Text: long}, false},
		{api.Value{Kind: api.Node}, false},
		{api.Value{Kind: api.Node, Text: "a b"}, false},
		{api.Value{Kind: api.Node, Num: 1, Text: "a"}, false},
		{api.Value{Kind: api.Edge, Text: "a>K>b"}, true},
		{api.Value{Kind: api.Edge, Text: name + ">" + name + ">" + name}, true},
		{api.Value{Kind: api.Edge, Text: long + ">a>b"}, false},
		{api.Value{Kind: api.Edge, Text: "a>" + long + ">b"}, false},
		{api.Value{Kind: api.Edge, Text: "a>b>" + long}, false},
		{api.Value{Kind: api.Edge, Text: "a>b"}, false},
		{api.Value{Kind: api.Edge, Text: "a>b>c>d"}, false},
		{api.Value{Kind: api.Edge, Text: "a>b>c>"}, false},
		{api.Value{Kind: api.Edge, Text: ">b>c"}, false},
		{api.Value{Kind: api.Edge, Text: "a>>c"}, false},
		{api.Value{Kind: api.Edge, Text: "a>b>"}, false},
		{api.Value{Kind: api.Edge, Num: -1, Text: "a>b>c"}, false},
		{api.Value{Kind: api.Edge}, false},
		{api.Value{Kind: -1}, false},
		{api.Value{Kind: 6}, false},
		{api.Value{Kind: 6, Text: "a"}, false},
	} {
		if got := Right(c.v); got != c.want {
			t.Errorf("Right(%+v) is %v", c.v, got)
		}
	}
}

func TestRightOfAllBytesP1_1(t *testing.T) {
	for b := range 256 {
		want := 32 <= b && b <= 126
		for _, s := range []string{string([]byte{byte(b)}), string([]byte{'a', byte(b)}), string([]byte{byte(b), 'a'})} {
			if got := Right(api.Value{Kind: api.Text, Text: s}); got != want {
				t.Errorf("Right of the Text %q is %v", s, got)
			}
		}
	}
}

// mayBe is the chapter's sentence on what a value may be, by patterns.
func mayBe(v api.Value) bool {
	switch v.Kind {
	case api.Null:
		return v == api.Value{}
	case api.Bool:
		return v.Text == "" && (v.Num == 0 || v.Num == 1)
	case api.Int:
		return v.Text == "" && v.Num <= 1<<40 && v.Num >= -1<<40
	case api.Text:
		return v.Num == 0 && saysPattern.MatchString(v.Text)
	case api.Node:
		return v.Num == 0 && namePattern.MatchString(v.Text)
	case api.Edge:
		return v.Num == 0 && edgePattern.MatchString(v.Text)
	}
	return false
}

func TestRightOfAllKindsP1_1(t *testing.T) {
	says := append(hostile(), texts([]string{"a", "K9", ">", "_", "'"}, 5)...)
	for _, k := range kinds() {
		for _, n := range numbers() {
			for _, s := range says {
				v := api.Value{Kind: k, Num: n, Text: s}
				if got, want := Right(v), mayBe(v); got != want {
					t.Fatalf("Right(%+v) is %v", v, got)
				}
			}
		}
	}
}

func TestElemP1_1(t *testing.T) {
	// Which of A, B, C, D are names; the others are empty.
	wanted := map[int][4]bool{
		api.ElemNode:  {true, false, false, false},
		api.ElemLabel: {true, false, false, true},
		api.ElemEdge:  {true, true, true, false},
		api.ElemProp:  {true, false, false, true},
		api.ElemTrait: {true, true, true, true},
	}
	says := []string{"", "a", "B_9", strings.Repeat("n", api.MaxName), strings.Repeat("n", api.MaxName+1), "9", "a b", "é"}
	for _, k := range []int{math.MinInt, -1, 0, 1, 2, 3, 4, 5, 6, math.MaxInt} {
		for _, a := range says {
			for _, b := range says {
				for _, c := range says {
					for _, d := range says {
						e := api.Elem{Kind: k, A: a, B: b, C: c, D: d}
						need, want := wanted[k]
						for i, s := range []string{a, b, c, d} {
							want = want && (need[i] && namePattern.MatchString(s) || !need[i] && s == "")
						}
						if got := Elem(e); got != want {
							t.Fatalf("Elem(%+v) is %v", e, got)
						}
					}
				}
			}
		}
	}
}

func TestCompareP1_1(t *testing.T) {
	rising := []api.Value{
		{Kind: math.MinInt, Num: math.MaxInt, Text: "z"},
		{Kind: -1},
		{},
		{Text: "a"},
		{Num: 1},
		{Kind: api.Bool},
		{Kind: api.Bool, Num: 1},
		{Kind: api.Int, Num: math.MinInt},
		{Kind: api.Int, Num: -api.MaxNum},
		{Kind: api.Int, Num: -1, Text: "z"},
		{Kind: api.Int},
		{Kind: api.Int, Num: 2},
		{Kind: api.Int, Num: 10},
		{Kind: api.Int, Num: math.MaxInt},
		{Kind: api.Text, Num: -1, Text: "z"},
		{Kind: api.Text},
		{Kind: api.Text, Text: "\x00"},
		{Kind: api.Text, Text: "10"},
		{Kind: api.Text, Text: "9"},
		{Kind: api.Text, Text: "B"},
		{Kind: api.Text, Text: "a"},
		{Kind: api.Text, Text: "aa"},
		{Kind: api.Text, Text: "b"},
		{Kind: api.Text, Text: "é"},
		{Kind: api.Text, Text: "\xff"},
		{Kind: api.Text, Num: 1},
		{Kind: api.Node, Text: "a"},
		{Kind: api.Edge, Text: "a>K>b"},
		{Kind: api.Edge, Text: "aa>K>b"},
		{Kind: 6},
		{Kind: math.MaxInt, Num: math.MinInt},
	}
	for i, a := range rising {
		for j, b := range rising {
			want := 0
			if i < j {
				want = -1
			} else if i > j {
				want = 1
			}
			if got := Compare(a, b); got != want {
				t.Errorf("Compare(%+v, %+v) is %d", a, b, got)
			}
		}
	}
}

func TestOfLinkP1_1(t *testing.T) {
	l := api.Link{From: "a", To: "b", Type: "K"}
	if got, want := OfLink(l), (api.Value{Kind: api.Edge, Text: "a>K>b"}); got != want {
		t.Errorf("OfLink(%+v) is %+v", l, got)
	}
}

func TestLinkP1_1(t *testing.T) {
	name := strings.Repeat("n", api.MaxName)
	for _, l := range []api.Link{{From: "a", To: "b", Type: "K"}, {From: "a", To: "a", Type: "a"}, {From: name, To: name, Type: name}, {From: "x_1", To: "Y2", Type: "z"}} {
		v := OfLink(l)
		if !Right(v) {
			t.Errorf("OfLink(%+v) may not be", l)
		}
		if got, ok := Link(v); !ok || got != l {
			t.Errorf("Link(OfLink(%+v)) is %+v, %v", l, got, ok)
		}
	}
	for _, l := range []api.Link{{}, {From: "a", To: "b"}, {From: "a>b", To: "c", Type: "d"}, {From: "a", To: "b", Type: "c>d"}, {From: "a", To: "b>c", Type: "d"}, {From: name + "n", To: "a", Type: "b"}} {
		if got, ok := Link(OfLink(l)); ok || got != (api.Link{}) {
			t.Errorf("Link(OfLink(%+v)) is %+v, %v", l, got, ok)
		}
	}
	for _, k := range kinds() {
		for _, n := range []int{0, 1, -1} {
			for _, s := range append(hostile(), texts([]string{"a", ">", "b_1"}, 6)...) {
				v := api.Value{Kind: k, Num: n, Text: s}
				got, ok := Link(v)
				if ok != (k == api.Edge && mayBe(v)) || ok && OfLink(got) != v || !ok && got != (api.Link{}) {
					t.Fatalf("Link(%+v) is %+v, %v", v, got, ok)
				}
			}
		}
	}
}
