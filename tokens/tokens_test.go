package tokens_test

import (
	"slices"
	"strings"
	"testing"

	"hedgerow/api"
	"hedgerow/lex"
	"hedgerow/tokens"
)

// read is a reader of a text's tokens.
func read(t *testing.T, s string) *tokens.Reader {
	t.Helper()
	l, err := lex.Tokens(s)
	if err != api.OK {
		t.Fatalf("%s is no row of tokens", s)
	}
	return &tokens.Reader{Left: l}
}

// left holds how many tokens a reader has yet, and its fault.
func left(t *testing.T, r *tokens.Reader, n int, err api.Errno) {
	t.Helper()
	if len(r.Left) != n || r.Err != err {
		t.Errorf("%d tokens are left, with the fault %d, not %d, %d", len(r.Left), r.Err, n, err)
	}
}

func TestMadeP19_1P20_1(t *testing.T) {
	for _, s := range slices.Concat(lex.Words(), lex.Signs()) {
		if l, err := lex.Tokens(s); err != api.OK || len(l) != 1 || l[0] != tokens.Mark(s) {
			t.Errorf("the mark of %s is %v", s, tokens.Mark(s))
		}
		if tokens.IsName(s) {
			t.Errorf("%s is a name", s)
		}
	}
	for _, s := range []string{"a", "Z9_", "match", "Null", "nnnnnnnnnnnnnnnn"} {
		if l, err := lex.Tokens(s); err != api.OK || len(l) != 1 || l[0] != tokens.Name(s) || !tokens.IsName(s) {
			t.Errorf("the token of the name %s is %v", s, tokens.Name(s))
		}
	}
	for _, s := range []string{"", "_", "1", "a b", " a", "é", "a.b", strings.Repeat("n", 17), "\x00"} {
		if tokens.IsName(s) {
			t.Errorf("%q is a name", s)
		}
	}
}

func TestReaderP19_1P20_1(t *testing.T) {
	r := read(t, "MATCH ( a 1 'x' ORDER BY ) b")
	if r.Takes("(") || r.Takes("a") || r.Any("(", "RETURN", "a", "") != "" || r.Any() != "" || r.Has(api.TokWord) && !r.Has(api.TokName, api.TokWord) || r.Has() {
		t.Error("it takes what doesn't stand there")
	}
	left(t, r, 9, api.OK)
	if r.Any("(", "MATCH") != "MATCH" || !r.Takes("(") || r.Takes("a") || !r.Has(api.TokName) || r.Has(api.TokNum, api.TokText) {
		t.Error("it doesn't take what stands there")
	}
	if s := r.Name(); s != "a" {
		t.Errorf("a is read as %q", s)
	}
	if x := r.One(api.TokText, api.TokNum); x != (api.Token{Kind: api.TokNum, Num: 1}) {
		t.Errorf("1 is read as %v", x)
	}
	if x := r.One(api.TokText); x != (api.Token{Kind: api.TokText, Text: "x"}) {
		t.Errorf("'x' is read as %v", x)
	}
	r.Needs("ORDER", "BY", ")")
	r.Needs()
	left(t, r, 1, api.OK)
	if s := r.Name(); s != "b" {
		t.Errorf("b is read as %q", s)
	}
	left(t, r, 0, api.OK)
	if r.Takes("b") || r.Takes("") || r.Has(1, 2, 3, 4, 5) || r.Any("(", "") != "" {
		t.Error("it takes something behind all")
	}
}

// TestFaultP19_1P20_1: behind a fault nothing is taken any more, and no other fault is kept.
func TestFaultP19_1P20_1(t *testing.T) {
	for name, fail := range map[string]func(r *tokens.Reader){
		"Needs":         func(r *tokens.Reader) { r.Needs("(") },
		"Needs, second": func(r *tokens.Reader) { r.Left = r.Left[1:]; r.Needs("ORDER", ")", "BY") },
		"One":           func(r *tokens.Reader) { r.Left = r.Left[1:]; r.One(api.TokName, api.TokNum) },
		"Name":          func(r *tokens.Reader) { r.Left = r.Left[1:]; r.Name() },
		"Fail":          func(r *tokens.Reader) { r.Fail(api.ErrSyntax) },
	} {
		r := read(t, "a ORDER BY 1")
		fail(r)
		n := len(r.Left)
		r.Fail(api.ErrDeep)
		r.Needs("BY", "a")
		if r.Takes("ORDER") || r.Takes("BY") || r.Any("ORDER", "BY", "a") != "" || r.Has(api.TokName, api.TokWord) || r.Name() != "" || r.One(api.TokName, api.TokWord) != (api.Token{}) {
			t.Errorf("behind a fault of %s something is taken", name)
		}
		left(t, r, n, api.ErrSyntax)
	}
	r := read(t, "")
	r.Needs("(")
	left(t, r, 0, api.ErrSyntax)
	r = read(t, "a")
	r.Fail(api.ErrDeep)
	r.Fail(api.ErrSyntax)
	left(t, r, 1, api.ErrDeep)
}

// TestTokensThatMayNotBeP19_1P20_1: one that may not be is of no kind.
func TestTokensThatMayNotBeP19_1P20_1(t *testing.T) {
	for _, x := range []api.Token{{}, tokens.Name("1"), tokens.Name("MATCH"), {Kind: api.TokName, Num: 1, Text: "a"}, {Kind: api.TokNum, Num: -1}, {Kind: api.TokText, Text: "\n"}, {Kind: api.TokSign, Num: 1, Text: "("}, {Kind: api.TokWord, Text: "a"}, {Kind: 6}} {
		r := tokens.Reader{Left: []api.Token{x}}
		if r.Has(x.Kind) || r.Takes(x.Text) || r.Any(x.Text) != "" || r.Err != api.OK || len(r.Left) != 1 {
			t.Errorf("%v is taken", x)
		}
		if got := r.One(x.Kind); got != (api.Token{}) || r.Err != api.ErrSyntax {
			t.Errorf("%v is read as %v", x, got)
		}
	}
}
