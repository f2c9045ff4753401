package lex

import (
	"math"
	"slices"
	"strings"
	"testing"

	"hedgerow/api"
)

// Tokens of a kind, as short calls.
func named(s string) api.Token  { return api.Token{Kind: api.TokName, Text: s} }
func word(s string) api.Token   { return api.Token{Kind: api.TokWord, Text: s} }
func counts(n int) api.Token    { return api.Token{Kind: api.TokNum, Num: n} }
func says(s string) api.Token   { return api.Token{Kind: api.TokText, Text: s} }
func signed(s string) api.Token { return api.Token{Kind: api.TokSign, Text: s} }

// row is several tokens.
func row(l ...api.Token) []api.Token { return l }

// signs are signs' tokens.
func signs(l ...string) []api.Token {
	var all []api.Token
	for _, s := range l {
		all = append(all, signed(s))
	}
	return all
}

// chapterWords and chapterSigns are what the chapter lists.
const (
	chapterWords = "MATCH, OPTIONAL, WHERE, RETURN, DISTINCT, ORDER, BY, DESC, SKIP, LIMIT, CREATE, SET, REMOVE, DELETE, AND, OR, NOT, IS, NULL, TRUE, FALSE, COUNT, SUM, MIN, MAX, MANY"
	chapterSigns = "( ) [ ] : , . .. - -> <- = <> < <= > >= + * @"
)

func TestWordsAndSignsP18_1(t *testing.T) {
	for range 2 {
		w, s := Words(), Signs()
		if !slices.Equal(w, strings.Split(chapterWords, ", ")) {
			t.Errorf("Words are %q", w)
		}
		if !slices.Equal(s, strings.Split(chapterSigns, " ")) {
			t.Errorf("Signs are %q", s)
		}
		// What is told is new memory: whatever a caller does with it, the next one doesn't see.
		clear(w)
		clear(s)
	}
	if l, err := Tokens("MATCH ("); err != api.OK || !slices.Equal(l, row(word("MATCH"), signed("("))) {
		t.Errorf("behind that, tokens are %v, %d", l, err)
	}
}

// reads holds what Tokens tells of a text against tokens.
func reads(t *testing.T, s string, want []api.Token) {
	t.Helper()
	if l, err := Tokens(s); err != api.OK || !slices.Equal(l, want) {
		t.Errorf("Tokens(%q) are %v, %d", s, l, err)
	}
}

// refuses holds that Tokens tells an error of a text, and nothing else.
func refuses(t *testing.T, s string, want api.Errno) {
	t.Helper()
	if l, err := Tokens(s); err != want || len(l) != 0 {
		t.Errorf("Tokens(%.80q) are %v, %d", s, l, err)
	}
}

func TestTokensP18_1(t *testing.T) {
	reads(t, "a.b>=3", row(named("a"), signed("."), named("b"), signed(">="), counts(3)))
	reads(t, "", nil)
	reads(t, "MATCH (n:P) RETURN n.a", row(word("MATCH"), signed("("), named("n"), signed(":"), named("P"), signed(")"), word("RETURN"), named("n"), signed("."), named("a")))
	reads(t, "(a)<-[:K*1..3]-(@b)", row(signed("("), named("a"), signed(")"), signed("<-"), signed("["), signed(":"), named("K"), signed("*"), counts(1), signed(".."), counts(3), signed("]"), signed("-"), signed("("), signed("@"), named("b"), signed(")")))
	reads(t, "SET n.a='it\\'s'+1", row(word("SET"), named("n"), signed("."), named("a"), signed("="), says("it's"), signed("+"), counts(1)))
	reads(t, "NOT n IS NULL OR TRUE", row(word("NOT"), named("n"), word("IS"), word("NULL"), word("OR"), word("TRUE")))
}

func TestBlanksP18_1(t *testing.T) {
	for _, s := range []string{"a b", "a  b", " a b", "a b ", "   a   b   "} {
		reads(t, s, row(named("a"), named("b")))
	}
	reads(t, " ", nil)
	reads(t, strings.Repeat(" ", api.MaxQuery), nil)
	reads(t, "< =", signs("<", "="))
	reads(t, "< -", signs("<", "-"))
	reads(t, ". .", signs(".", "."))
	reads(t, "1 2", row(counts(1), counts(2)))
	reads(t, "0 0", row(counts(0), counts(0)))
	reads(t, "OR DER", row(word("OR"), named("DER")))
	reads(t, "' a '", row(says(" a ")))
	for _, s := range []string{"\t", "\n", "\r", "a\tb", "a\nb", "a\n", "\ra", "\v", "\f", "\x00", "a\x00", "\u00a0", "\u2003", "\u3000"} {
		refuses(t, s, api.ErrSyntax)
	}
}

func TestNamesP18_1(t *testing.T) {
	for _, s := range []string{"a", "z", "A", "Z", "a0", "a9", "a_", "aZ", "x__9", "n" + strings.Repeat("1", api.MaxName-1), strings.Repeat("M", api.MaxName)} {
		reads(t, s, row(named(s)))
	}
	// Close to words, and none.
	for _, s := range []string{"match", "Match", "MATCH_", "MATCH1", "MATCHES", "MATC", "xMATCH", "B", "BYE", "ORDERBY", "null", "true", "DESCR", "ASC", "XOR", "AS", "WITH"} {
		reads(t, s, row(named(s)))
	}
	reads(t, "1a", row(counts(1), named("a")))
	reads(t, "0a1", row(counts(0), named("a1")))
	reads(t, "a'b'c", row(named("a"), says("b"), named("c")))
	for _, s := range []string{"_", "_a", "1_", "a _b", "é", "aé", "a\x80", "\xff", "ª", "a２", "A\u0301", "\u0410"} {
		refuses(t, s, api.ErrSyntax)
	}
	// All that stands behind a letter is one token, or none: no name is cut off the front of it.
	for _, n := range []int{api.MaxName + 1, api.MaxName + 2, 2 * api.MaxName, api.MaxQuery} {
		refuses(t, strings.Repeat("a", n), api.ErrSyntax)
	}
	refuses(t, strings.Repeat("a", api.MaxName)+"_", api.ErrSyntax)
	refuses(t, strings.Repeat("a", api.MaxName)+"1", api.ErrSyntax)
	refuses(t, "MATCH"+strings.Repeat("H", api.MaxName), api.ErrSyntax)
}

func TestWordsAsTokensP18_1(t *testing.T) {
	for _, s := range strings.Split(chapterWords, ", ") {
		reads(t, s, row(word(s)))
		reads(t, "("+s+")", row(signed("("), word(s), signed(")")))
		reads(t, s+"'"+s+"'", row(word(s), says(s)))
		reads(t, "7"+s, row(counts(7), word(s)))
		for _, near := range []string{strings.ToLower(s), s + "x", s + "0", s + "_", "x" + s} {
			reads(t, near, row(named(near)))
		}
	}
}

func TestNumbersP18_1(t *testing.T) {
	for s, n := range map[string]int{"0": 0, "1": 1, "9": 9, "10": 10, "100": 100, "1234567890": 1234567890, "1099511627775": api.MaxNum - 1, "1099511627776": api.MaxNum} {
		reads(t, s, row(counts(n)))
	}
	reads(t, "-5", row(signed("-"), counts(5)))
	reads(t, "-0", row(signed("-"), counts(0)))
	reads(t, "+1", row(signed("+"), counts(1)))
	reads(t, "1.5", row(counts(1), signed("."), counts(5)))
	reads(t, "1..5", row(counts(1), signed(".."), counts(5)))
	reads(t, "0x10", row(counts(0), named("x10")))
	reads(t, "1e3", row(counts(1), named("e3")))
	reads(t, "1'1'1", row(counts(1), says("1"), counts(1)))
	for _, s := range []string{
		"00", "01", "007", "0000000000001", "a 01", "1.00", "1.05", "1_000",
		"1099511627777", "9999999999999", "10995116277760", "9223372036854775807", "9223372036854775808", "18446744073709551616", "18446744073709551617",
		strings.Repeat("9", 100), strings.Repeat("1", api.MaxQuery), strings.Repeat("0", api.MaxQuery), "\u0661", "１",
	} {
		refuses(t, s, api.ErrSyntax)
	}
}

func TestTextsP18_1(t *testing.T) {
	for s, want := range map[string]string{
		"''": "", "'a'": "a", "' '": " ", "'~'": "~", `'\''`: "'", `'\\'`: `\`, `'\\\''`: `\'`, `'\'\\'`: `'\`, `'a\'b'`: "a'b", `'"'`: `"`, "'MATCH'": "MATCH", "'1'": "1", "'(a)-[:K]->'": "(a)-[:K]->", "'null'": "null",
		"'" + strings.Repeat("x", api.MaxText) + "'":  strings.Repeat("x", api.MaxText),
		"'" + strings.Repeat(`\'`, api.MaxText) + "'": strings.Repeat("'", api.MaxText),
		"'" + strings.Repeat(`\\`, api.MaxText) + "'": strings.Repeat(`\`, api.MaxText),
	} {
		reads(t, s, row(says(want)))
	}
	reads(t, "''''", row(says(""), says("")))
	reads(t, "'a''b'", row(says("a"), says("b")))
	reads(t, "'a'b'c'", row(says("a"), named("b"), says("c")))
	reads(t, `'\\''\''`, row(says(`\`), says("'")))
	for _, s := range []string{
		"'", "'''", "'a", "a'", "'a'b'", `'\'`, `'\\\'`, `'a\`, `\`, `\'`, `'\a'`, `'\n'`, `'\ '`, `'\"'`, `'\0'`, `"a"`, "'\n'", "'\t'", "'\x00'", "'\x1f'", "'\x7f'", "'\x80'", "'é'", "'\xff'", "`a`",
		"'" + strings.Repeat("x", api.MaxText+1) + "'", "'" + strings.Repeat(`\'`, api.MaxText+1) + "'", "'" + strings.Repeat("x", 2*api.MaxText) + "'", "'" + strings.Repeat("x", 2*api.MaxText+1) + "'", "'" + strings.Repeat("x", api.MaxQuery-2) + "'",
		"'" + strings.Repeat("x", api.MaxQuery-1), strings.Repeat(`'\`, api.MaxQuery/2), strings.Repeat("'", 3),
	} {
		refuses(t, s, api.ErrSyntax)
	}
}

func TestSignsAsTokensP18_1(t *testing.T) {
	for _, s := range strings.Split(chapterSigns, " ") {
		reads(t, s, signs(s))
		reads(t, "a"+s+"b", row(named("a"), signed(s), named("b")))
		reads(t, "1"+s+"1", row(counts(1), signed(s), counts(1)))
	}
	// The longest that stands there.
	reads(t, "...", signs("..", "."))
	reads(t, "....", signs("..", ".."))
	reads(t, "-->", signs("-", "->"))
	reads(t, "->>", signs("->", ">"))
	reads(t, "->=", signs("->", "="))
	reads(t, "<-->", signs("<-", "->"))
	reads(t, "<->", signs("<-", ">"))
	reads(t, "<<-", signs("<", "<-"))
	reads(t, "<=>", signs("<=", ">"))
	reads(t, "<>=", signs("<>", "="))
	reads(t, "=>", signs("=", ">"))
	reads(t, "=<", signs("=", "<"))
	reads(t, "==", signs("=", "="))
	reads(t, "><", signs(">", "<"))
	reads(t, ">=<=<>", signs(">=", "<=", "<>"))
	reads(t, "--", signs("-", "-"))
	reads(t, "**", signs("*", "*"))
	reads(t, "a<-1", row(named("a"), signed("<-"), counts(1)))
	for _, s := range []string{"!", "#", "$", "%", "&", "/", ";", "?", "^", "{", "|", "}", "`", `"`, `\`, "~", "!=", "a != b", "(;", "a/b", "−", "→"} {
		refuses(t, s, api.ErrSyntax)
	}
}

func TestLongP18_1(t *testing.T) {
	reads(t, strings.Repeat("(", api.MaxQuery), signs(strings.Split(strings.Repeat("(", api.MaxQuery), "")...))
	reads(t, strings.Repeat(" ", api.MaxQuery-1)+"a", row(named("a")))
	for _, n := range []int{api.MaxQuery + 1, 2 * api.MaxQuery, 1 << 20} {
		for _, s := range []string{" ", "(", "a", "1", "'", "!", "\xff", "\x00"} {
			refuses(t, strings.Repeat(s, n), api.ErrLong)
		}
	}
	// ErrLong is named first, and told of bytes, not of signs.
	refuses(t, strings.Repeat("é", api.MaxQuery/2), api.ErrSyntax)
	refuses(t, strings.Repeat("é", api.MaxQuery/2)+"a", api.ErrLong)
}

func TestErrorTellsNothingElseP18_1(t *testing.T) {
	for _, s := range []string{"a b c !", "! a", "a ! b", "MATCH (n) RETURN '", "1 01", "a.b>=3 _", "a\n"} {
		refuses(t, s, api.ErrSyntax)
	}
	refuses(t, strings.Repeat("a ", api.MaxQuery/2)+"a", api.ErrLong)
}

func TestTextP18_1(t *testing.T) {
	for _, c := range []struct {
		l    []api.Token
		want string
	}{
		{nil, ""},
		{row(), ""},
		{row(named("a")), "a"},
		{row(named("a"), signed("."), named("b"), signed(">="), counts(3)), "a . b >= 3"},
		{row(word("MATCH"), signed("("), named("n"), signed(")")), "MATCH ( n )"},
		{row(counts(0)), "0"},
		{row(counts(10), counts(api.MaxNum)), "10 1099511627776"},
		{row(says("")), "''"},
		{row(says("it's"), says(`\`), says("a b")), `'it\'s' '\\' 'a b'`},
		{row(says(strings.Repeat("'", api.MaxText))), "'" + strings.Repeat(`\'`, api.MaxText) + "'"},
		{row(named(strings.Repeat("n", api.MaxName))), strings.Repeat("n", api.MaxName)},
		{signs("<", "=", ".", ".", "-", ">"), "< = . . - >"},
		{row(named("match"), named("MATCHES"), says("MATCH")), "match MATCHES 'MATCH'"},
	} {
		if s, ok := Text(c.l); !ok || s != c.want {
			t.Errorf("Text(%v) is %q, %v", c.l, s, ok)
		}
	}
	for _, s := range strings.Split(chapterWords, ", ") {
		if got, ok := Text(row(word(s))); !ok || got != s {
			t.Errorf("Text of word %s is %q, %v", s, got, ok)
		}
	}
	for _, s := range strings.Split(chapterSigns, " ") {
		if got, ok := Text(row(signed(s))); !ok || got != s {
			t.Errorf("Text of sign %s is %q, %v", s, got, ok)
		}
	}
	// There is no bound to what is told.
	l := slices.Repeat(row(says(strings.Repeat("'", api.MaxText))), 100)
	if s, ok := Text(l); !ok || len(s) != 100*(2*api.MaxText+3)-1 {
		t.Errorf("Text of long ones has %d bytes, %v", len(s), ok)
	}
}

// mayNot are tokens that may not be.
func mayNot() []api.Token {
	return []api.Token{
		{}, {Text: "a"}, {Num: 1}, {Kind: -1, Text: "a"}, {Kind: 6, Text: "a"}, {Kind: 6, Num: 1}, {Kind: math.MaxInt}, {Kind: math.MinInt, Text: "("},
		named(""), named("_"), named("1"), named("1a"), named("a b"), named(" a"), named("a "), named("a."), named("é"), named("aé"), named("a\n"), named("a\x00"), named("'a'"), named("("),
		named(strings.Repeat("n", api.MaxName+1)), named(strings.Repeat("n", 1<<20)), named("MATCH"), named("MANY"), named("BY"), {Kind: api.TokName, Num: 1, Text: "a"}, {Kind: api.TokName, Num: -1, Text: "a"},
		word(""), word("a"), word("match"), word("MATCH "), word(" MATCH"), word("MATCHES"), word("("), word("ORDER BY"), word("1"), word("'a'"), {Kind: api.TokWord, Num: 1, Text: "MATCH"},
		counts(-1), counts(api.MaxNum + 1), counts(-api.MaxNum), counts(math.MaxInt), counts(math.MinInt), {Kind: api.TokNum, Num: 1, Text: "1"}, {Kind: api.TokNum, Text: "0"}, {Kind: api.TokNum, Text: " "},
		says("\n"), says("\x1f"), says("\x7f"), says("é"), says("\xff"), says("a\x00"), says(strings.Repeat("x", api.MaxText+1)), says(strings.Repeat("x", 1<<20)), {Kind: api.TokText, Num: 1}, {Kind: api.TokText, Num: 1, Text: "a"}, {Kind: api.TokText, Num: -1, Text: "a"},
		signed(""), signed(" "), signed("()"), signed("( "), signed(" ("), signed("..."), signed("!"), signed("-->"), signed("=="), signed("a"), signed("MATCH"), signed("'"), signed("1"), {Kind: api.TokSign, Num: 1, Text: "("},
	}
}

func TestTextRefusesP18_1(t *testing.T) {
	for _, x := range mayNot() {
		for _, l := range [][]api.Token{{x}, {x, named("a")}, {named("a"), x}, {named("a"), x, named("b")}} {
			if s, ok := Text(l); ok || s != "" {
				t.Errorf("Text(%.100v) is %.100q, %v", l, s, ok)
			}
		}
	}
}

func TestTextChangesNothingP18_1(t *testing.T) {
	l := row(named("a"), says("it's"), counts(3), signed("("), word("OR"))
	was := slices.Clone(l)
	Text(l)
	Text(append(l, api.Token{}))
	Is(l[0], "a")
	if !slices.Equal(l, was) {
		t.Errorf("the tokens are %v now", l)
	}
}

func TestIsP18_1(t *testing.T) {
	words, marks := strings.Split(chapterWords, ", "), strings.Split(chapterSigns, " ")
	for _, s := range append(slices.Clone(words), marks...) {
		for _, x := range words {
			if got := Is(word(x), s); got != (x == s) {
				t.Errorf("Is(word %s, %s) is %v", x, s, got)
			}
		}
		for _, x := range marks {
			if got := Is(signed(x), s); got != (x == s) {
				t.Errorf("Is(sign %s, %s) is %v", x, s, got)
			}
		}
		for _, k := range []int{0, api.TokName, api.TokNum, api.TokText, -1, 6} {
			if Is(api.Token{Kind: k, Text: s}, s) {
				t.Errorf("Is of kind %d, %s is true", k, s)
			}
		}
	}
	for _, x := range []api.Token{named("a"), counts(1), says("a"), says("("), says(""), says("MATCH")} {
		if Is(x, x.Text) || Is(x, "1") || Is(x, "'a'") || Is(x, "MATCH") {
			t.Errorf("%v is a word, or a sign", x)
		}
	}
	for _, s := range []string{"", "match", "MATCH ", " MATCH", "MATC", "MATCHES", "M", strings.Repeat("MATCH", 1000)} {
		if Is(word("MATCH"), s) {
			t.Errorf("MATCH is %.20q", s)
		}
	}
	for _, s := range []string{"", " ", ".", "...", ".. ", " ..", "MATCH"} {
		if Is(signed(".."), s) {
			t.Errorf(".. is %q", s)
		}
	}
}

func TestIsOfWhatMayNotBeP18_1(t *testing.T) {
	for _, x := range mayNot() {
		if Is(x, x.Text) || Is(x, "") || Is(x, "MATCH") || Is(x, "(") {
			t.Errorf("%.100v is a word, or a sign", x)
		}
	}
}
