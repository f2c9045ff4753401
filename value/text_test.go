package value

import (
	"math/rand"
	"regexp"
	"strconv"
	"strings"
	"testing"

	"hedgerow/api"
)

// cases are values with their texts.
func cases() map[api.Value]string {
	name := strings.Repeat("n", api.MaxName)
	return map[api.Value]string{
		{}:                                "null",
		{Kind: api.Bool}:                  "false",
		{Kind: api.Bool, Num: 1}:          "true",
		{Kind: api.Int}:                   "0",
		{Kind: api.Int, Num: 7}:           "7",
		{Kind: api.Int, Num: -10}:         "-10",
		{Kind: api.Int, Num: api.MaxNum}:  "1099511627776",
		{Kind: api.Int, Num: -api.MaxNum}: "-1099511627776",
		{Kind: api.Text}:                  "''",
		{Kind: api.Text, Text: "it's"}:    `'it\'s'`,
		{Kind: api.Text, Text: "'"}:       `'\''`,
		{Kind: api.Text, Text: `\`}:       `'\\'`,
		{Kind: api.Text, Text: `\'`}:      `'\\\''`,
		{Kind: api.Text, Text: `a\nb`}:    `'a\\nb'`,
		{Kind: api.Text, Text: ` ~"`}:     `' ~"'`,
		{Kind: api.Text, Text: "null"}:    "'null'",
		{Kind: api.Text, Text: strings.Repeat("x", api.MaxText)}: "'" + strings.Repeat("x", api.MaxText) + "'",
		{Kind: api.Text, Text: strings.Repeat("'", api.MaxText)}: "'" + strings.Repeat(`\'`, api.MaxText) + "'",
		{Kind: api.Node, Text: "a"}:                              "(a)",
		{Kind: api.Node, Text: name}:                             "(" + name + ")",
		{Kind: api.Node, Text: "null"}:                           "(null)",
		{Kind: api.Edge, Text: "a>K>b"}:                          "[a>K>b]",
		{Kind: api.Edge, Text: name + ">" + name + ">" + name}:   "[" + name + ">" + name + ">" + name + "]",
	}
}

func TestStringP1_1(t *testing.T) {
	for v, want := range cases() {
		if got := String(v); got != want {
			t.Errorf("String(%+v) is %q", v, got)
		}
	}
}

func TestParseP1_1(t *testing.T) {
	for want, s := range cases() {
		if got, ok := Parse(s); !ok || got != want {
			t.Errorf("Parse(%q) is %+v, %v", s, got, ok)
		}
	}
}

func TestStringOfWhatMayNotBeP1_1(t *testing.T) {
	for _, k := range kinds() {
		for _, n := range numbers() {
			for _, s := range hostile() {
				v := api.Value{Kind: k, Num: n, Text: s}
				if got := String(v); (got != "") != mayBe(v) {
					t.Fatalf("String(%+v) is %q", v, got)
				}
			}
		}
	}
}

func TestParseRefusesP1_1(t *testing.T) {
	name := strings.Repeat("n", api.MaxName+1)
	for _, s := range []string{
		"", " ", "nul", "Null", "NULL", "null ", " null", "True", "FALSE", "tru", "falsee", "nil",
		"-0", "00", "01", "-01", "+1", "-", "--1", "1 ", " 1", "1.0", "1e3", "0x10", "1_000", "\u0661", "1099511627777", "-1099511627777",
		"9223372036854775808", "-9223372036854775809", "18446744073709551616", strings.Repeat("9", 60), strings.Repeat("0", 60),
		"'", "'''", "'a", "a'", "'a'b'", `'\'`, `'\\\'`, `'\a'`, `'a\`, `'a\'`, `'\n'`, "'a'x", "x'a'", "''''", "'a' ", "\"a\"", "'a\n'", "'\x1f'", "'\x7f'", "'\x80'", "'é'", "'\xff'",
		"'" + strings.Repeat("x", api.MaxText+1) + "'", "'" + strings.Repeat(`\'`, api.MaxText+1) + "'", "'" + strings.Repeat("x", 2*api.MaxText) + "'",
		"(", ")", "()", "(a", "a)", "(a]", "[a)", "( a)", "(a )", "(a)(b)", "((a))", "(9)", "(_)", "(é)", "(" + name + ")", "(a>b>c)",
		"[", "]", "[]", "[a]", "[a>b]", "[a>b>]", "[>b>c]", "[a>>c]", "[a>b>c>d]", "[a>b>c", "a>b>c]", "[[a>b>c]]", "[a > b > c]", "[a>b>9]", "[" + name + ">b>c]", "[a>" + name + ">c]", "[a>b>" + name + "]", "(a>b>c]",
		"\x00", "\xff", "é", strings.Repeat("a", 1<<20), "'" + strings.Repeat("a", 1<<20) + "'",
	} {
		if v, ok := Parse(s); ok || v != (api.Value{}) {
			t.Errorf("Parse(%q) is %+v, %v", s, v, ok)
		}
	}
}

// textPattern is the chapter's sentence on texts: numbers' range aside.
var textPattern = regexp.MustCompile(`^(null|true|false|0|-?[1-9][0-9]*|'([ -&(-\[\]-~]|\\['\\]){0,64}'|\([a-zA-Z][a-zA-Z0-9_]{0,15}\)|\[[a-zA-Z][a-zA-Z0-9_]{0,15}(>[a-zA-Z][a-zA-Z0-9_]{0,15}){2}\])$`)

// hasText asks whether some value has a text.
func hasText(s string) bool {
	if !textPattern.MatchString(s) {
		return false
	}
	if s[0] != '-' && (s[0] < '0' || s[0] > '9') {
		return true
	}
	n, err := strconv.Atoi(s)
	return err == nil && -1<<40 <= n && n <= 1<<40
}

// asked holds what Parse answers of a text against the pattern, and against String.
func asked(t *testing.T, s string) {
	v, ok := Parse(s)
	if ok != hasText(s) {
		t.Fatalf("Parse(%q) is %+v, %v", s, v, ok)
	}
	if ok && String(v) != s {
		t.Fatalf("Parse(%q) is %+v, whose text is %q", s, v, String(v))
	}
	if !ok && v != (api.Value{}) {
		t.Fatalf("Parse(%q) is %+v beside false", s, v)
	}
}

func TestParseOfAllShortTextsP1_2(t *testing.T) {
	for _, pieces := range [][]string{
		{"'", `\`, "a", " ", "\xff"},
		{"-", "0", "1", "9", "+"},
		{"[", "]", "a", ">", "B9"},
		{"(", ")", "a", "_", "1"},
		{"null", "true", "false", "'", "("},
	} {
		for _, s := range texts(pieces, 7) {
			asked(t, s)
		}
	}
	for a := range 256 {
		for b := range 256 {
			asked(t, string([]byte{byte(a), byte(b)}))
			asked(t, string([]byte{'\'', byte(a), byte(b), '\''}))
			asked(t, string([]byte{'(', byte(a), byte(b), ')'}))
		}
	}
	for _, s := range hostile() {
		for _, w := range []string{s, "'" + s + "'", "(" + s + ")", "[" + s + "]"} {
			asked(t, w)
		}
	}
}

// someName is a name of that many bytes.
func someName(r *rand.Rand, size int) string {
	const signs = "abcdefghijklmnopqrstuvwxyzABCDEFGHIJKLMNOPQRSTUVWXYZ0123456789_"
	b := []byte{signs[r.Intn(52)]}
	for len(b) < size {
		b = append(b, signs[r.Intn(len(signs))])
	}
	return string(b)
}

// someValue is a value that may be.
func someValue(r *rand.Rand) api.Value {
	name := func() string { return someName(r, 1+r.Intn(api.MaxName)) }
	switch r.Intn(5) {
	case 0:
		return api.Value{Kind: api.Bool, Num: r.Intn(2)}
	case 1:
		return api.Value{Kind: api.Int, Num: r.Intn(2*api.MaxNum+1) - api.MaxNum}
	case 2:
		b := make([]byte, r.Intn(api.MaxText+1))
		for i := range b {
			b[i] = []byte{byte(32 + r.Intn(95)), '\'', '\\'}[r.Intn(3)]
		}
		return api.Value{Kind: api.Text, Text: string(b)}
	case 3:
		return api.Value{Kind: api.Node, Text: name()}
	}
	return OfLink(api.Link{From: name(), To: name(), Type: name()})
}

func TestRoundP1_2(t *testing.T) {
	r := rand.New(rand.NewSource(1))
	for range 20000 {
		v := someValue(r)
		s := String(v)
		if got, ok := Parse(s); !ok || got != v {
			t.Fatalf("Parse(String(%+v)) is %+v, %v", v, got, ok)
		}
		// What is close to a text has one itself, or is refused.
		i, b := r.Intn(len(s)), string([]byte{byte(r.Intn(256))})
		for _, near := range []string{s[:i], s[i:], s[:i] + b + s[i:], s[:i] + s[i+1:], s[:i] + b + s[i+1:]} {
			asked(t, near)
		}
	}
}

func TestIntsAtTheEdgesP1_2(t *testing.T) {
	for _, edge := range []int{0, api.MaxNum, -api.MaxNum} {
		for n := edge - 20; n <= edge+20; n++ {
			v := api.Value{Kind: api.Int, Num: n}
			want := -1<<40 <= n && n <= 1<<40
			got, ok := Parse(strconv.Itoa(n))
			if ok != want || ok && got != v || ok && String(v) != strconv.Itoa(n) || !ok && String(v) != "" {
				t.Errorf("Parse of %d is %+v, %v; String is %q", n, got, ok, String(v))
			}
		}
	}
}

// TestNoPanicP5 asks all calls at arguments of all sorts: a panic fails it, and so does what doesn't end.
func TestNoPanicP5(t *testing.T) {
	says := append(hostile(), strings.Repeat(">", 1<<20), strings.Repeat("a>", 1<<20), strings.Repeat(`\`, 1<<20), "["+strings.Repeat("a", 1<<20)+"]")
	for i, s := range says {
		Name(s)
		Parse(s)
		other := says[len(says)-1-i]
		OfLink(api.Link{From: s, To: other, Type: s})
		for _, k := range kinds() {
			Elem(api.Elem{Kind: k, A: s, B: other, C: s, D: other})
			for _, n := range numbers() {
				v := api.Value{Kind: k, Num: n, Text: s}
				Right(v)
				String(v)
				Link(v)
				if c, d := Compare(v, api.Value{Kind: k, Num: n, Text: other}), strings.Compare(s, other); c != d {
					t.Fatalf("Compare of %q and %q is %d", s, other, c)
				}
			}
		}
	}
}
