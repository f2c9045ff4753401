package lex

import (
	"math/rand"
	"regexp"
	"slices"
	"strconv"
	"strings"
	"testing"

	"hedgerow/api"
)

// The chapter's words as patterns, for holding the calls against what is written otherwise: what a text begins with, and what of it may be a token.
var (
	startPattern = regexp.MustCompile(`^(?:[a-zA-Z][a-zA-Z0-9_]*|[0-9]+|'(?:[ -&(-\[\]-~]|\\['\\])*'|\.\.|->|<-|<>|<=|>=|[][():,.\-=<>+*@])`)
	namePattern  = regexp.MustCompile(`^[a-zA-Z][a-zA-Z0-9_]{0,15}$`)
	wordPattern  = regexp.MustCompile("^(" + strings.ReplaceAll(chapterWords, ", ", "|") + ")$")
	numPattern   = regexp.MustCompile(`^(0|[1-9][0-9]{0,12})$`)
	textPattern  = regexp.MustCompile(`^'([^'\\]|\\['\\]){0,64}'$`)
)

// modelToken is the token that a text is, which is as long as may be; false: it is none.
func modelToken(s string) (api.Token, bool) {
	switch {
	case wordPattern.MatchString(s):
		return word(s), true
	case namePattern.MatchString(s):
		return named(s), true
	case s[0] >= '0' && s[0] <= '9':
		n, err := strconv.ParseUint(s, 10, 64)
		return counts(int(n)), numPattern.MatchString(s) && err == nil && n <= 1<<40
	case s[0] == '\'':
		return says(strings.NewReplacer(`\\`, `\`, `\'`, "'").Replace(s[1 : len(s)-1])), textPattern.MatchString(s)
	}
	return signed(s), slices.Contains(strings.Split(chapterSigns, " "), s)
}

// modelTokens is what the chapter tells of a text.
func modelTokens(s string) ([]api.Token, api.Errno) {
	if len(s) > 2000 {
		return nil, api.ErrLong
	}
	var l []api.Token
	for s != "" {
		if s[0] == ' ' {
			s = s[1:]
			continue
		}
		has := startPattern.FindString(s)
		if has == "" {
			return nil, api.ErrSyntax
		}
		t, ok := modelToken(has)
		if !ok {
			return nil, api.ErrSyntax
		}
		l = append(l, t)
		s = s[len(has):]
	}
	return l, api.OK
}

// asked holds what the calls answer of a text against the model; and its tokens against those of their text.
func asked(t *testing.T, s string) {
	t.Helper()
	l, err := Tokens(s)
	want, wantErr := modelTokens(s)
	if err != wantErr || !slices.Equal(l, want) {
		t.Fatalf("Tokens(%q) are %v, %d; of the model %v, %d", s, l, err, want, wantErr)
	}
	if err == api.OK {
		again(t, l)
	}
}

// again holds tokens against those of their text.
func again(t *testing.T, l []api.Token) {
	t.Helper()
	s, ok := Text(l)
	if !ok {
		t.Fatalf("%v have no text", l)
	}
	got, err := Tokens(s)
	if len(s) > 2000 {
		if err != api.ErrLong {
			t.Fatalf("the tokens of %q are %v, %d", s, got, err)
		}
		return
	}
	if err != api.OK || !slices.Equal(got, l) {
		t.Fatalf("%v have the text %q, its tokens are %v, %d", l, s, got, err)
	}
	if twice, ok := Text(got); !ok || twice != s {
		t.Fatalf("%q comes again as %q, %v", s, twice, ok)
	}
}

// texts are all texts of at most so many of the pieces.
func texts(pieces []string, most int) []string {
	all := []string{""}
	last := all
	for range most {
		var next []string
		for _, s := range last {
			for _, p := range pieces {
				next = append(next, s+p)
			}
		}
		all = append(all, next...)
		last = next
	}
	return all
}

func TestAllShortTextsP18_1P18_2(t *testing.T) {
	for _, pieces := range [][]string{
		{"'", `\`, "a", " ", "\xff"},
		{"<", ">", "=", "-", "."},
		{"0", "1", "a", "_", " "},
		{".", "..", "*", "1", ","},
		{"OR", "DER", "BY", "x", "'"},
		{"(", ")", "@", "n", ":"},
	} {
		for _, s := range texts(pieces, 6) {
			asked(t, s)
		}
	}
}

func TestAllBytesP18_1P18_2(t *testing.T) {
	for a := range 256 {
		for b := range 256 {
			asked(t, string([]byte{byte(a), byte(b)}))
			asked(t, string([]byte{'\'', byte(a), byte(b), '\''}))
			asked(t, string([]byte{'a', byte(a), '1', byte(b), ' '}))
		}
	}
}

// someName is a name of that many bytes; it may be a word.
func someName(r *rand.Rand, size int) string {
	const all = "abcdefghijklmnopqrstuvwxyzABCDEFGHIJKLMNOPQRSTUVWXYZ0123456789_"
	b := []byte{all[r.Intn(52)]}
	for len(b) < size {
		b = append(b, all[r.Intn(len(all))])
	}
	return string(b)
}

// someToken is one that may be.
func someToken(r *rand.Rand) api.Token {
	switch r.Intn(5) {
	case 0:
		s := someName(r, 1+r.Intn(api.MaxName))
		if wordPattern.MatchString(s) {
			return word(s)
		}
		return named(s)
	case 1:
		words := strings.Split(chapterWords, ", ")
		return word(words[r.Intn(len(words))])
	case 2:
		return counts(r.Intn(api.MaxNum+1) >> r.Intn(41))
	case 3:
		b := make([]byte, r.Intn(api.MaxText+1)>>r.Intn(5))
		for i := range b {
			b[i] = []byte{byte(32 + r.Intn(95)), '\'', '\\'}[r.Intn(3)]
		}
		return says(string(b))
	}
	marks := strings.Split(chapterSigns, " ")
	return signed(marks[r.Intn(len(marks))])
}

// near are texts that differ from one in a place.
func near(r *rand.Rand, s string) []string {
	i, b := r.Intn(len(s)), string([]byte{byte(r.Intn(256))})
	sign := string([]byte{byte(32 + r.Intn(95))})
	return []string{s[:i], s[i:], s[:i] + b + s[i:], s[:i] + sign + s[i:], s[:i] + s[i+1:], s[:i] + sign + s[i+1:]}
}

func TestRoundP18_2(t *testing.T) {
	r := rand.New(rand.NewSource(1))
	for range 5000 {
		l := make([]api.Token, 1+r.Intn(12))
		for i := range l {
			l[i] = someToken(r)
		}
		again(t, l)
		s, _ := Text(l)
		asked(t, s)
		asked(t, strings.ReplaceAll(s, " ", ""))
		asked(t, strings.ReplaceAll(s, " ", "   "))
		for _, n := range near(r, s) {
			asked(t, n)
		}
	}
}

func TestNumbersAtTheEdgesP18_2(t *testing.T) {
	for _, edge := range []int{0, 10, 100, api.MaxNum} {
		for n := edge - 20; n <= edge+20; n++ {
			s, ok := Text(row(counts(n)))
			if may := n >= 0 && n <= api.MaxNum; ok != may || may && s != strconv.Itoa(n) || !may && s != "" {
				t.Errorf("Text of %d is %q, %v", n, s, ok)
			}
			asked(t, strconv.Itoa(n))
		}
	}
}

// TestFullP18_2: as many tokens as a text may have come again, but that blanks between them make theirs too long.
func TestFullP18_2(t *testing.T) {
	for _, s := range []string{
		strings.Repeat("( ", api.MaxQuery/2), strings.Repeat("()", 500) + "(", strings.Repeat("(", 1000), strings.Repeat("(", 1001), strings.Repeat("(", api.MaxQuery),
		strings.Repeat("''", api.MaxQuery/2), strings.Repeat("..", api.MaxQuery/2), strings.Repeat("1a", api.MaxQuery/2),
	} {
		asked(t, s)
	}
}

func TestAnyBytesP5(t *testing.T) {
	r := rand.New(rand.NewSource(2))
	pieces := append(append(strings.Split(chapterWords, ", "), strings.Split(chapterSigns, " ")...), " ", "'", `\`, "a", "_", "0", "7", "\xff", "\n", "é")
	for range 3000 {
		b := make([]byte, r.Intn(2100)>>r.Intn(12))
		r.Read(b)
		asked(t, string(b))
		var s strings.Builder
		for range r.Intn(600) >> r.Intn(10) {
			s.WriteString(pieces[r.Intn(len(pieces))])
		}
		asked(t, s.String())
	}
	for range 3000 {
		x := api.Token{Kind: r.Intn(8) - 1, Num: r.Intn(3) - 1, Text: pieces[r.Intn(len(pieces))]}
		s, ok := Text(row(x))
		l, err := modelTokens(s)
		if may := err == api.OK && len(l) == 1 && l[0] == x; ok != may {
			t.Fatalf("Text(%v) is %q, %v", x, s, ok)
		}
		if is := Is(x, x.Text); is != (ok && (x.Kind == api.TokWord || x.Kind == api.TokSign)) {
			t.Fatalf("Is(%v, %q) is %v", x, x.Text, is)
		}
	}
}
