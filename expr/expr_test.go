package expr_test

import (
	"math"
	"slices"
	"strings"
	"testing"

	"hedgerow/api"
	"hedgerow/expr"
	"hedgerow/lex"
)

// Tokens of a kind, as short calls.
func named(s string) api.Token  { return api.Token{Kind: api.TokName, Text: s} }
func word(s string) api.Token   { return api.Token{Kind: api.TokWord, Text: s} }
func counts(n int) api.Token    { return api.Token{Kind: api.TokNum, Num: n} }
func says(s string) api.Token   { return api.Token{Kind: api.TokText, Text: s} }
func signed(s string) api.Token { return api.Token{Kind: api.TokSign, Text: s} }

// toks are a text's tokens; the text may be longer than a query's.
func toks(s string) []api.Token {
	l, err := lex.Tokens(s)
	if err == api.OK {
		return l
	}
	for _, part := range strings.Split(s, " ") {
		more, err := lex.Tokens(part)
		if err != api.OK {
			panic(part)
		}
		l = append(l, more...)
	}
	return l
}

// Expressions of a kind, as short calls.
func val(kind, n int, s string) api.Expr {
	return api.Expr{Kind: api.ExValue, Value: api.Value{Kind: kind, Num: n, Text: s}}
}
func integer(n int) api.Expr         { return val(api.Int, n, "") }
func variable(s string) api.Expr     { return api.Expr{Kind: api.ExVar, Var: s} }
func prop(s, p string) api.Expr      { return api.Expr{Kind: api.ExProp, Var: s, Prop: p} }
func many(s, p string) api.Expr      { return api.Expr{Kind: api.ExMany, Var: s, Prop: p} }
func one(kind, l int) api.Expr       { return api.Expr{Kind: kind, L: l} }
func two(kind, l, r int) api.Expr    { return api.Expr{Kind: kind, L: l, R: r} }
func exprs(l ...api.Expr) []api.Expr { return l }
func nots(n int, e api.Expr) []api.Expr {
	row := exprs(e)
	for i := range n {
		row = append(row, one(api.ExNot, i))
	}
	return row
}

// sums is a row of so many times a, added from the left.
func sums(n int) []api.Expr {
	row := exprs(variable("a"))
	for range n - 1 {
		row = append(row, variable("a"), two(api.ExAdd, len(row)-1, len(row)))
	}
	return row
}

// doubles is a row of which each one has the one ahead of it as both sides.
func doubles(n int) []api.Expr {
	row := exprs(variable("a"))
	for i := range n {
		row = append(row, two(api.ExAdd, i, i))
	}
	return row
}

// parses holds what Parse tells of a text's tokens against a row, whose last one is the whole, and how many tokens that has.
func parses(t *testing.T, s string, size int, want ...api.Expr) {
	t.Helper()
	l := toks(s)
	row, place, n, err := expr.Parse(l, nil)
	if err != api.OK || !slices.Equal(row, want) || place != len(want)-1 || n != size {
		t.Errorf("Parse(%s) is %v, %d, %d, %d", s, row, place, n, err)
	}
	asked(t, l)
}

// refuses holds that Parse tells an error of tokens, and nothing else.
func refuses(t *testing.T, l []api.Token, want api.Errno) {
	t.Helper()
	row, place, n, err := expr.Parse(l, exprs(variable("x")))
	if err != want || len(row) != 0 || place != 0 || n != 0 {
		t.Errorf("Parse(%.200s) is %.100v, %d, %d, %d", text(l), row, place, n, err)
	}
	asked(t, l)
}

func TestPrimsP19_1(t *testing.T) {
	parses(t, "0", 1, integer(0))
	parses(t, "7", 1, integer(7))
	parses(t, "1099511627776", 1, integer(api.MaxNum))
	parses(t, "-7", 2, integer(-7))
	parses(t, "- 1099511627776", 2, integer(-api.MaxNum))
	parses(t, "''", 1, val(api.Text, 0, ""))
	parses(t, `'it\'s'`, 1, val(api.Text, 0, "it's"))
	parses(t, "'NULL'", 1, val(api.Text, 0, "NULL"))
	parses(t, "TRUE", 1, val(api.Bool, 1, ""))
	parses(t, "FALSE", 1, val(api.Bool, 0, ""))
	parses(t, "NULL", 1, val(api.Null, 0, ""))
	parses(t, "@a", 2, val(api.Node, 0, "a"))
	parses(t, "@nnnnnnnnnnnnnnnn", 2, val(api.Node, 0, "nnnnnnnnnnnnnnnn"))
	parses(t, "a", 1, variable("a"))
	parses(t, "null", 1, variable("null"))
	parses(t, "a.b", 3, prop("a", "b"))
	parses(t, "a . a", 3, prop("a", "a"))
	parses(t, "MANY(a.b)", 6, many("a", "b"))
	parses(t, "(a)", 3, variable("a"))
	parses(t, "(((a.b)))", 9, prop("a", "b"))
	parses(t, "(-7)", 4, integer(-7))
	parses(t, "(MANY(a.b))", 8, many("a", "b"))
}

func TestEachKindP19_1(t *testing.T) {
	for kind, s := range twoSided {
		parses(t, "a "+s+" b", 3, variable("a"), variable("b"), two(kind, 0, 1))
	}
	parses(t, "NOT a", 2, variable("a"), one(api.ExNot, 0))
	parses(t, "a IS NULL", 3, variable("a"), one(api.ExNull, 0))
	parses(t, "a IS NOT NULL", 4, variable("a"), one(api.ExSome, 0))
}

func TestOrderOfRulesP19_1(t *testing.T) {
	a, b, c := variable("a"), variable("b"), variable("c")
	parses(t, "a + 2 * 3", 5, a, integer(2), integer(3), two(api.ExMul, 1, 2), two(api.ExAdd, 0, 3))
	parses(t, "a * 2 + 3", 5, a, integer(2), two(api.ExMul, 0, 1), integer(3), two(api.ExAdd, 2, 3))
	parses(t, "(a + 2) * 3", 7, a, integer(2), two(api.ExAdd, 0, 1), integer(3), two(api.ExMul, 2, 3))
	parses(t, "a - b - c", 5, a, b, two(api.ExSub, 0, 1), c, two(api.ExSub, 2, 3))
	parses(t, "a - (b - c)", 7, a, b, c, two(api.ExSub, 1, 2), two(api.ExSub, 0, 3))
	parses(t, "a - b + c", 5, a, b, two(api.ExSub, 0, 1), c, two(api.ExAdd, 2, 3))
	parses(t, "a * b * c", 5, a, b, two(api.ExMul, 0, 1), c, two(api.ExMul, 2, 3))
	parses(t, "a OR b AND c", 5, a, b, c, two(api.ExAnd, 1, 2), two(api.ExOr, 0, 3))
	parses(t, "a AND b OR c", 5, a, b, two(api.ExAnd, 0, 1), c, two(api.ExOr, 2, 3))
	parses(t, "a OR b OR c", 5, a, b, two(api.ExOr, 0, 1), c, two(api.ExOr, 2, 3))
	parses(t, "NOT a AND b", 4, a, one(api.ExNot, 0), b, two(api.ExAnd, 1, 2))
	parses(t, "a AND NOT b", 4, a, b, one(api.ExNot, 1), two(api.ExAnd, 0, 2))
	parses(t, "NOT a = b", 4, a, b, two(api.ExEq, 0, 1), one(api.ExNot, 2))
	parses(t, "NOT a IS NULL", 4, a, one(api.ExNull, 0), one(api.ExNot, 1))
	parses(t, "NOT NOT a", 3, a, one(api.ExNot, 0), one(api.ExNot, 1))
	parses(t, "a + b = c", 5, a, b, two(api.ExAdd, 0, 1), c, two(api.ExEq, 2, 3))
	parses(t, "a = b + c", 5, a, b, c, two(api.ExAdd, 1, 2), two(api.ExEq, 0, 3))
	parses(t, "a + b IS NULL", 5, a, b, two(api.ExAdd, 0, 1), one(api.ExNull, 2))
	parses(t, "a = b AND c", 5, a, b, two(api.ExEq, 0, 1), c, two(api.ExAnd, 2, 3))
	parses(t, "(a = b) = c", 7, a, b, two(api.ExEq, 0, 1), c, two(api.ExEq, 2, 3))
	parses(t, "a = (NOT b)", 6, a, b, one(api.ExNot, 1), two(api.ExEq, 0, 2))
	parses(t, "a -1", 3, a, integer(1), two(api.ExSub, 0, 1))
	parses(t, "a --1", 4, a, integer(-1), two(api.ExSub, 0, 1))
	parses(t, "a - 0", 3, a, integer(0), two(api.ExSub, 0, 1))
	parses(t, "-1 - 1", 4, integer(-1), integer(1), two(api.ExSub, 0, 1))
	parses(t, "-1 * -2", 5, integer(-1), integer(-2), two(api.ExMul, 0, 1))
	parses(t, "a < -1", 4, a, integer(-1), two(api.ExLt, 0, 1))
	parses(t, "@a = @b", 5, val(api.Node, 0, "a"), val(api.Node, 0, "b"), two(api.ExEq, 0, 1))
}

func TestWhereItEndsP19_1(t *testing.T) {
	a, b := variable("a"), variable("b")
	equal := exprs(a, b, two(api.ExEq, 0, 1))
	for s, size := range map[string]int{
		"a )": 1, "a , b": 1, "a b": 1, "a 1": 1, "a 'b'": 1, "a (": 1, "a @ b": 1, "a NOT b": 1, "a NULL": 1, "a TRUE": 1, "a MANY ( a . b )": 1, "a .. b": 1, "a -> b": 1, "a <- 1": 1, "a : b": 1, "a ] b": 1, "a RETURN b": 1, "a WHERE": 1, "a DESC": 1,
	} {
		parses(t, s, size, a)
	}
	for _, s := range []string{"a = b", "a = b = a", "a = b < 1", "a = b <> 1", "a = b IS NULL", "a = b IS", "a = b )"} {
		parses(t, s, 3, equal...)
	}
	parses(t, "a IS NULL IS NULL", 3, a, one(api.ExNull, 0))
	parses(t, "a IS NULL = b", 3, a, one(api.ExNull, 0))
	parses(t, "a IS NULL + b", 3, a, one(api.ExNull, 0))
	parses(t, "a IS NOT NULL * b", 4, a, one(api.ExSome, 0))
	parses(t, "a IS NULL - 1", 3, a, one(api.ExNull, 0))
	parses(t, "a . b . a", 3, prop("a", "b"))
	parses(t, "a . b .. a", 3, prop("a", "b"))
	parses(t, "MANY ( a . b ) . a", 6, many("a", "b"))
	parses(t, "1 . 2", 1, integer(1))
	parses(t, "1 . a", 1, integer(1))
	parses(t, "'a' . a", 1, val(api.Text, 0, "a"))
	parses(t, "@ a . b", 2, val(api.Node, 0, "a"))
	parses(t, "( a ) . b", 3, a)
	parses(t, "( a = b ) )", 5, equal...)
	parses(t, "a .. b . a", 1, a)
	parses(t, "many ( a . b ) OR", 1, variable("many"))
	parses(t, "not a", 1, variable("not"))
	parses(t, "a is NULL", 1, a)
}

// mustStand are texts that don't begin with an expression.
func mustStand() []string {
	return []string{
		"", ")", "()", "(", "( a", "( a b )", "( a = b = c )", "( a IS NULL IS NULL )", "( a , b )", "( )", "( a ]",
		"OR", "OR a", "a OR", "a OR OR b", "a OR )", "a OR AND b", "AND a", "a AND", "a AND AND b", "a OR RETURN", "a AND , b",
		"NOT", "NOT )", "NOT OR a", "NOT NOT", "NOT AND a", "a AND NOT", "a = NOT b", "a + NOT b", "a * NOT b", "a = NOT NOT b", "a OR NOT",
		"=", "= a", "a =", "a = =", "a = )", "a < > b", "a <> OR b", "a > AND b", "a >= RETURN", "a <= <= b", "a < = b",
		"IS NULL", "IS", "a IS", "a IS a", "a IS NOT", "a IS NOT a", "a IS NOT NOT NULL", "a IS TRUE", "a IS NOT TRUE", "a IS ( NULL )", "a IS OR", "a IS null", "a IS )",
		"+", "+ a", "a +", "a + +", "a + + b", "+ 1", "a + )", "a + OR b", "a -", "a - )", "- a", "- - 1", "a - - a", "-", "- 0", "a - - 0", "- 'a'", "- ( 1 )", "- NULL", "- - - 1", "- a . b",
		"*", "* a", "a *", "a * *", "a * )", "a * OR b", "COUNT ( * )", "COUNT ( a )", "SUM ( a )", "MIN ( a )", "MAX ( a )",
		"@", "@ 1", "@ 'a'", "@ NULL", "@ @ a", "@ ( a )", "@ MATCH", "@ )", "a = @", "@ - 1",
		".", ". a", "a .", "a . 1", "a . 'b'", "a . MATCH", "a . NULL", "a . . b", "a . ( b )", "a . @ b", "a . )", ".. a", "a . OR",
		"MANY", "MANY a . b", "MANY (", "MANY ( )", "MANY ( a", "MANY ( a )", "MANY ( a .", "MANY ( a . )", "MANY ( a . b", "MANY ( a . b ]", "MANY ( a . b . c )", "MANY ( ( a . b ) )", "MANY ( 1 . b )", "MANY ( a . 1 )", "MANY ( a . MATCH )", "MANY ( MATCH . b )", "MANY ( a + b )", "MANY ( @ a . b )", "MANY ( a .. b )",
		"MATCH", "RETURN a", "WHERE", "DISTINCT a", "[ a ]", ", a", ": a", "-> a", "<- a", "SET",
	}
}

func TestSyntaxP19_1(t *testing.T) {
	for _, s := range mustStand() {
		refuses(t, toks(s), api.ErrSyntax)
	}
	refuses(t, nil, api.ErrSyntax)
	refuses(t, []api.Token{}, api.ErrSyntax)
}

// mayNot are tokens that may not be.
func mayNot() []api.Token {
	return []api.Token{
		{}, {Text: "a"}, {Kind: -1, Text: "a"}, {Kind: 6, Text: "a"}, {Kind: math.MaxInt}, {Kind: math.MinInt, Num: 1},
		named(""), named("1"), named("_"), named("a b"), named("é"), named("MATCH"), named("NULL"), named("TRUE"), named("("), named(strings.Repeat("n", api.MaxName+1)), {Kind: api.TokName, Num: 1, Text: "a"},
		word(""), word("a"), word("null"), word("("), {Kind: api.TokWord, Num: 1, Text: "NULL"}, {Kind: api.TokWord, Num: 1, Text: "TRUE"}, {Kind: api.TokWord, Num: 1, Text: "NOT"}, {Kind: api.TokWord, Num: 1, Text: "MANY"}, {Kind: api.TokWord, Num: 1, Text: "AND"}, {Kind: api.TokWord, Num: 1, Text: "IS"}, {Kind: api.TokWord, Num: -1, Text: "OR"},
		counts(-1), counts(api.MaxNum + 1), counts(math.MaxInt), counts(math.MinInt), {Kind: api.TokNum, Num: 1, Text: "1"}, {Kind: api.TokNum, Text: "0"},
		says("\n"), says("é"), says(strings.Repeat("x", api.MaxText+1)), {Kind: api.TokText, Num: 1, Text: "a"},
		signed(""), signed("!"), signed("=="), signed("AND"), {Kind: api.TokSign, Num: 1, Text: "("}, {Kind: api.TokSign, Num: 1, Text: "-"}, {Kind: api.TokSign, Num: 1, Text: "@"}, {Kind: api.TokSign, Num: 1, Text: "."}, {Kind: api.TokSign, Num: 1, Text: "+"}, {Kind: api.TokSign, Num: 1, Text: "="}, {Kind: api.TokSign, Num: 1, Text: ")"}, {Kind: api.TokSign, Num: 1, Text: "*"},
	}
}

// TestTokensThatMayNotBeP19_1: a token that may not be is no name, number, text, word or sign, wherever it stands.
func TestTokensThatMayNotBeP19_1(t *testing.T) {
	for _, x := range mayNot() {
		refuses(t, []api.Token{x}, api.ErrSyntax)
		refuses(t, []api.Token{x, named("a")}, api.ErrSyntax)
		refuses(t, []api.Token{x, counts(1)}, api.ErrSyntax)
		for _, ahead := range []string{"(", "NOT", "a OR", "a AND", "a =", "a <>", "a +", "a -", "a *", "-", "@", "a .", "a IS", "a IS NOT", "MANY", "MANY (", "MANY ( a", "MANY ( a .", "MANY ( a . b", "( a", "( a = b"} {
			refuses(t, append(toks(ahead), x), api.ErrSyntax)
			refuses(t, append(append(toks(ahead), x), toks("( a . b ) NULL )")...), api.ErrSyntax)
		}
		// Behind what is whole it isn't asked for.
		for _, s := range []string{"a", "1", "a . b", "a = 1", "( a )", "NOT a", "a IS NULL", "a OR b AND c"} {
			l := append(toks(s), x, named("b"))
			if row, place, n, err := expr.Parse(l, nil); err != api.OK || n != len(l)-2 || place != len(row)-1 {
				t.Errorf("Parse(%s) tells %d, %d, %d", text(l), place, n, err)
			}
			asked(t, l)
		}
	}
}

// around is a text between as many "(" and ")".
func around(n int, s string) string {
	return strings.Repeat("( ", n) + s + strings.Repeat(" )", n)
}

func TestDeepP19_1(t *testing.T) {
	not := func(n int) string { return strings.Repeat("NOT ", n) }
	for _, s := range []string{
		around(64, "a"), not(64) + "a", around(32, not(32)+"a"), not(32) + around(32, "a"), around(63, "NOT a"), "NOT " + around(63, "a"),
		around(64, "a") + " OR " + around(64, "b"), not(64) + "a AND " + not(64) + "b", not(64) + "a OR " + around(64, "b"), around(63, "NOT a AND NOT b OR ( a )"),
		around(64, "a . b = MANY ( a . b )"), around(64, "a IS NOT NULL"), not(64) + "a IS NOT NULL", around(64, "a = - 1 AND @ b = c"), "( " + not(63) + "a ) AND " + around(64, "a"), "a + " + around(64, "a") + " * " + around(64, "a"),
		not(63) + "( a ) = ( b ) + ( a )", around(60, not(4)+"a = "+around(0, "b")),
	} {
		l := toks(s)
		if row, _, n, err := expr.Parse(l, nil); err != api.OK || n != len(l) {
			t.Errorf("Parse(%.80s) is %v, %d, %d", s, row, n, err)
		}
		asked(t, l)
	}
	for _, s := range []string{
		around(65, "a"), not(65) + "a", around(32, not(33)+"a"), not(33) + around(32, "a"), around(64, "NOT a"), "NOT " + around(64, "a"), around(64, "( a"), not(64) + "( a )",
		"a OR " + around(65, "b"), "a = " + around(65, "b"), "a + " + around(65, "b"), "a * " + around(65, "b"), around(64, "a AND NOT b"), around(64, "a = ( b )"), not(64) + "a = ( b )", around(64, "a") + " OR " + around(65, "b"),
		around(1000, "a"), not(1000) + "a", strings.Repeat("( NOT ", 500) + "a", strings.Repeat("( ", 65), strings.Repeat("NOT ", 65), strings.Repeat("( ", 65) + ")", strings.Repeat("NOT ", 65) + "OR", strings.Repeat("( a + ", 65), strings.Repeat("NOT ( ", 33),
	} {
		refuses(t, toks(s), api.ErrDeep)
	}
	// Whichever comes first.
	for _, s := range []string{
		strings.Repeat("( ", 64), strings.Repeat("NOT ", 64), strings.Repeat("( ", 64) + ")", strings.Repeat("( ", 64) + "a", around(64, ""), around(64, "OR ( a )"), "OR " + around(65, "a"), "a = NOT " + around(65, "a"), ") " + around(65, "a"), "a AND OR " + around(65, "a"), "a . " + around(65, "a"), "- " + around(65, "1"), "@ " + around(65, "a"), "MANY " + around(65, "a . b"), around(64, "a ( a )"), "a IS NOT NOT " + around(65, "a"), "( a b " + around(65, "a"),
	} {
		refuses(t, toks(s), api.ErrSyntax)
	}
	// What comes behind the end isn't asked for.
	parses(t, "a "+around(65, "b"), 1, variable("a"))
	parses(t, "a IS NULL = "+around(65, "b"), 3, variable("a"), one(api.ExNull, 0))
}

func TestLongP19_1(t *testing.T) {
	const n = 1 << 16
	l := slices.Repeat(toks("a -"), n)
	refuses := func(l []api.Token) {
		t.Helper()
		if row, place, size, err := expr.Parse(l, nil); err != api.ErrSyntax || len(row) != 0 || place != 0 || size != 0 {
			t.Errorf("Parse of %d tokens is %d, %d, %d, %d", len(l), len(row), place, size, err)
		}
	}
	refuses(l)
	l = append(l, named("b"))
	row, place, size, err := expr.Parse(l, nil)
	if err != api.OK || len(row) != 2*n+1 || place != 2*n || size != len(l) || row[2*n] != two(api.ExSub, 2*n-2, 2*n-1) || expr.Right(row) != api.OK {
		t.Errorf("Parse of %d tokens is %d, %d, %d, %d", len(l), len(row), place, size, err)
	}
	// As many as may be told, and more.
	if told, ok := expr.Tokens(row, 4094); !ok || !slices.Equal(told, l[:4095]) {
		t.Errorf("%d tokens are told, %v", len(told), ok)
	}
	if told, ok := expr.Tokens(row, 4096); ok || len(told) != 0 {
		t.Errorf("%d tokens are told, %v", len(told), ok)
	}
	if got := expr.Vars(row, place); !slices.Equal(got, []string{"a", "b"}) {
		t.Errorf("Vars are %q", got)
	}
	if got := expr.Depth(row, place); got != 4096 {
		t.Errorf("Depth is %d", got)
	}
	for _, s := range []string{"(", "NOT", "( NOT", "a OR (", "NOT a AND NOT NOT"} {
		l := slices.Repeat(toks(s), n)
		if _, _, _, err := expr.Parse(l, nil); err != api.ErrDeep && err != api.ErrSyntax {
			t.Errorf("Parse of %d tokens of %s tells %d", len(l), s, err)
		}
	}
}

// TestRowP19_1: the row stands ahead of what is put, whatever it is, and stays as it was.
func TestRowP19_1(t *testing.T) {
	for _, ahead := range [][]api.Expr{
		nil, {}, {variable("x")}, {variable("x"), one(api.ExNot, 0)}, {{}}, {{Kind: -1, L: 7, R: -7}, two(api.ExOr, 9, 9)}, doubles(40), nots(5000, integer(1)),
	} {
		spare := append(make([]api.Expr, 0, len(ahead)+20), ahead...)
		l := toks("NOT ( a - 2 ) * b . c = d )")
		kept := slices.Clone(l)
		row, place, n, err := expr.Parse(l, spare)
		k := len(ahead)
		want := slices.Concat(ahead, exprs(variable("a"), integer(2), two(api.ExSub, k, k+1), prop("b", "c"), two(api.ExMul, k+2, k+3), variable("d"), two(api.ExEq, k+4, k+5), one(api.ExNot, k+6)))
		if err != api.OK || !slices.Equal(row, want) || place != k+7 || n != 12 {
			t.Errorf("Parse behind %d is %v, %d, %d, %d", k, row, place, n, err)
		}
		if !slices.Equal(spare, ahead) || !slices.Equal(l, kept) {
			t.Errorf("the row is %v now, the tokens are %v", spare, l)
		}
		for _, e := range spare[k:cap(spare)] {
			if e != (api.Expr{}) {
				t.Errorf("%v is laid behind the row that was handed in", e)
			}
		}
		clear(row)
		if !slices.Equal(spare, ahead) {
			t.Errorf("the row is %v now", spare)
		}
		refuses(t, toks("a OR"), api.ErrSyntax)
	}
}

// tells holds what Tokens tells of the last of a row against a text.
func tells(t *testing.T, want string, row ...api.Expr) {
	t.Helper()
	l, ok := expr.Tokens(row, len(row)-1)
	if s, may := lex.Text(l); !ok || !may || s != want {
		t.Errorf("Tokens(%v) are %s, %v", row, text(l), ok)
	}
	asked(t, l)
}

func TestTokensP19_1(t *testing.T) {
	a, b, c := variable("a"), variable("b"), variable("c")
	tells(t, "NULL", val(api.Null, 0, ""))
	tells(t, "TRUE", val(api.Bool, 1, ""))
	tells(t, "FALSE", val(api.Bool, 0, ""))
	tells(t, "0", integer(0))
	tells(t, "1099511627776", integer(api.MaxNum))
	tells(t, "- 1", integer(-1))
	tells(t, "- 1099511627776", integer(-api.MaxNum))
	tells(t, `'it\'s \\'`, val(api.Text, 0, `it's \`))
	tells(t, "@ a", val(api.Node, 0, "a"))
	tells(t, "a", a)
	tells(t, "a . b", prop("a", "b"))
	tells(t, "MANY ( a . b )", many("a", "b"))
	tells(t, "NOT a", a, one(api.ExNot, 0))
	tells(t, "NOT NOT a", a, one(api.ExNot, 0), one(api.ExNot, 1))
	tells(t, "a IS NULL", a, one(api.ExNull, 0))
	tells(t, "( a IS NULL ) IS NOT NULL", a, one(api.ExNull, 0), one(api.ExSome, 1))
	tells(t, "( NOT a ) IS NULL", a, one(api.ExNot, 0), one(api.ExNull, 1))
	tells(t, "NOT a IS NULL", a, one(api.ExNull, 0), one(api.ExNot, 1))
	tells(t, "- 1 IS NULL", integer(-1), one(api.ExNull, 0))
	tells(t, "a + b IS NULL", a, b, two(api.ExAdd, 0, 1), one(api.ExNull, 2))
	tells(t, "a - - 1", a, integer(-1), two(api.ExSub, 0, 1))
	tells(t, "a - b - c", a, b, c, two(api.ExSub, 0, 1), two(api.ExSub, 3, 2))
	tells(t, "a - ( b - c )", a, b, c, two(api.ExSub, 1, 2), two(api.ExSub, 0, 3))
	tells(t, "( a OR b ) AND c", a, b, c, two(api.ExOr, 0, 1), two(api.ExAnd, 3, 2))
	tells(t, "a AND ( b AND c )", a, b, c, two(api.ExAnd, 1, 2), two(api.ExAnd, 0, 3))
	tells(t, "NOT ( a AND b )", a, b, two(api.ExAnd, 0, 1), one(api.ExNot, 2))
	tells(t, "NOT a AND b", a, b, one(api.ExNot, 0), two(api.ExAnd, 2, 1))
	tells(t, "a = ( NOT b )", a, b, one(api.ExNot, 1), two(api.ExEq, 0, 2))
	tells(t, "( a = b ) < c", a, b, c, two(api.ExEq, 0, 1), two(api.ExLt, 3, 2))
	tells(t, "a <= ( b >= c )", a, b, c, two(api.ExGe, 1, 2), two(api.ExLe, 0, 3))
	tells(t, "( a = b ) * c", a, b, c, two(api.ExEq, 0, 1), two(api.ExMul, 3, 2))
	tells(t, "( a + b ) * ( a + b )", a, b, two(api.ExAdd, 0, 1), two(api.ExMul, 2, 2))
	tells(t, "a <> a", a, b, c, two(api.ExNe, 0, 0))
	// In the middle of a row: what is behind, and what isn't used, isn't told.
	row := exprs(c, a, b, two(api.ExAdd, 1, 2), two(api.ExMul, 3, 0), c)
	for i, want := range []string{"c", "a", "b", "a + b", "( a + b ) * c", "c"} {
		if l, ok := expr.Tokens(row, i); !ok || text(l) != want {
			t.Errorf("Tokens at %d are %s, %v", i, text(l), ok)
		}
	}
}

func TestManyTokensP19_1(t *testing.T) {
	for _, c := range []struct {
		row  []api.Expr
		want int
	}{
		{nots(4095, variable("a")), 4096}, {nots(4096, variable("a")), 0}, {nots(4094, integer(-1)), 4096}, {nots(4095, integer(-1)), 0}, {nots(4090, many("a", "b")), 4096}, {nots(4091, many("a", "b")), 0}, {nots(1<<17, variable("a")), 0},
		{sums(2048), 4095}, {sums(2049), 0}, {append(sums(2048), one(api.ExNot, 4094)), 4096}, {append(sums(2048), integer(1), two(api.ExMul, 4094, 4095)), 0}, {append(sums(2047), variable("b"), two(api.ExAdd, 4092, 4093)), 4095}, {append(sums(2047), integer(-1), two(api.ExAdd, 4092, 4093)), 4096},
		{append(sums(2047), one(api.ExNull, 4092)), 4095}, {append(sums(2047), one(api.ExSome, 4092)), 4096}, {append(sums(2047), one(api.ExSome, 4092), one(api.ExNot, 4093)), 0},
		{append(sums(2046), integer(1), two(api.ExMul, 4090, 4091)), 4095}, {append(sums(2047), integer(1), two(api.ExMul, 4092, 4093)), 0}, {append(sums(2046), integer(-1), two(api.ExMul, 4090, 4091)), 4096}, {append(sums(2046), integer(-1), two(api.ExMul, 4091, 4090)), 4096}, {doubles(10), 3069}, {doubles(40), 0}, {doubles(1000), 0}, {doubles(1 << 17), 0},
	} {
		i := len(c.row) - 1
		l, ok := expr.Tokens(c.row, i)
		if ok != (c.want > 0) || len(l) != c.want {
			t.Errorf("of %d expressions %d tokens are told, %v, not %d", len(c.row), len(l), ok, c.want)
		}
	}
}

// wrong are rows that may not be.
func wrong() map[string][]api.Expr {
	a, long := variable("a"), strings.Repeat("n", api.MaxName+1)
	return map[string][]api.Expr{
		"no kind": {{}}, "kind -1": {{Kind: -1}}, "kind 19": {a, {Kind: 19}}, "kind 19 with sides": {a, a, two(19, 0, 1)}, "a great kind": {{Kind: math.MaxInt}}, "a small kind": {{Kind: math.MinInt}}, "a name, and no kind": {{Var: "a"}},
		"a value of no kind": {val(6, 0, "")}, "a value below all kinds": {val(-1, 0, "")}, "an edge": {val(api.Edge, 0, "a>K>b")}, "an edge that may not be": {val(api.Edge, 0, "a>K")},
		"a Null with a number": {val(api.Null, 1, "")}, "a Null with a text": {val(api.Null, 0, "a")}, "a Bool 2": {val(api.Bool, 2, "")}, "a Bool -1": {val(api.Bool, -1, "")}, "a Bool with a text": {val(api.Bool, 1, "a")},
		"an Int above all": {integer(api.MaxNum + 1)}, "an Int below all": {integer(-api.MaxNum - 1)}, "the least Int": {integer(math.MinInt)}, "the greatest Int": {integer(math.MaxInt)}, "an Int with a text": {val(api.Int, 1, "1")},
		"a Text with a number": {val(api.Text, 1, "a")}, "a Text too long": {val(api.Text, 0, strings.Repeat("x", api.MaxText+1))}, "a Text of other bytes": {val(api.Text, 0, "é")},
		"a Node of no key": {val(api.Node, 0, "")}, "a Node of no name": {val(api.Node, 0, "1")}, "a Node of a number": {val(api.Node, 1, "a")}, "a Node of a long key": {val(api.Node, 0, long)}, "a Node of a word": {val(api.Node, 0, "MATCH")}, "a Node of NULL": {val(api.Node, 0, "NULL")},
		"a value with a variable": {{Kind: api.ExValue, Var: "a"}}, "a value with a property": {{Kind: api.ExValue, Prop: "a"}}, "a value with L": {a, {Kind: api.ExValue, L: 1}}, "a value with R": {a, a, {Kind: api.ExValue, R: 1}},
		"no variable": {variable("")}, "a variable of no name": {variable("1a")}, "a long variable": {variable(long)}, "a variable of other signs": {variable("a.b")}, "a word as variable": {variable("MATCH")}, "a variable MANY": {variable("MANY")}, "a variable é": {variable("é")},
		"a variable with a property": {{Kind: api.ExVar, Var: "a", Prop: "b"}}, "a variable with a value": {{Kind: api.ExVar, Var: "a", Value: api.Value{Kind: api.Int}}}, "a variable with a number": {{Kind: api.ExVar, Var: "a", Value: api.Value{Num: 1}}}, "a variable with L": {a, a, {Kind: api.ExVar, Var: "a", L: 1}}, "a variable with R": {a, a, {Kind: api.ExVar, Var: "a", R: 1}}, "a variable with L below 0": {a, {Kind: api.ExVar, Var: "a", L: -1}},
		"no property": {prop("a", "")}, "no property's variable": {prop("", "a")}, "a property of no name": {prop("a", "_")}, "a word's property": {prop("SET", "a")}, "a word as property": {prop("a", "SET")}, "a long property": {prop("a", long)}, "a property with a value": {{Kind: api.ExProp, Var: "a", Prop: "b", Value: api.Value{Text: "a"}}}, "a property with L": {a, a, {Kind: api.ExProp, Var: "a", Prop: "b", L: 1}}, "a property with R": {a, a, {Kind: api.ExProp, Var: "a", Prop: "b", R: 1}},
		"many of nothing": {many("a", "")}, "many of nobody": {many("", "a")}, "many of a word": {many("a", "BY")}, "many of a word's": {many("BY", "a")}, "many with a value": {{Kind: api.ExMany, Var: "a", Prop: "b", Value: api.Value{Kind: api.Bool}}}, "many with L": {a, a, {Kind: api.ExMany, Var: "a", Prop: "b", L: 1}}, "many with R": {a, a, {Kind: api.ExMany, Var: "a", Prop: "b", R: 1}},
		"a NOT of itself": {one(api.ExNot, 0)}, "a NOT of one behind": {a, one(api.ExNot, 2), a}, "a NOT below all": {a, one(api.ExNot, -1)}, "a NOT of the least": {a, one(api.ExNot, math.MinInt)}, "a NOT of the greatest": {a, one(api.ExNot, math.MaxInt)}, "a NOT with R": {a, a, two(api.ExNot, 0, 1)}, "a NOT with a variable": {a, {Kind: api.ExNot, Var: "a"}}, "a NOT with a property": {a, {Kind: api.ExNot, Prop: "a"}}, "a NOT with a value": {a, {Kind: api.ExNot, Value: api.Value{Kind: api.Bool}}},
		"an IS NULL of itself": {one(api.ExNull, 0)}, "an IS NULL with R": {a, a, two(api.ExNull, 0, 1)}, "an IS NULL below all": {a, one(api.ExNull, -1)}, "an IS NOT NULL of itself": {a, one(api.ExSome, 1)}, "an IS NOT NULL with R": {a, a, two(api.ExSome, 0, 1)}, "an IS NOT NULL with a variable": {a, {Kind: api.ExSome, Var: "a"}},
		"the last one": {a, a, two(api.ExOr, 0, 1), {}}, "the first one": {{}, a}, "one that isn't used": {a, integer(api.MaxNum + 1), a},
	}
}

func TestRightP19_1(t *testing.T) {
	a := variable("a")
	for _, row := range [][]api.Expr{
		nil, {}, {a}, {integer(api.MaxNum), integer(-api.MaxNum)}, {val(api.Node, 0, "match")}, {val(api.Text, 0, "MATCH")}, {val(api.Text, 0, strings.Repeat("'", api.MaxText))}, {variable(strings.Repeat("n", api.MaxName))}, {prop("a", "a"), many("a", "a")},
		{a, one(api.ExNot, 0)}, {a, one(api.ExNull, 0)}, {a, one(api.ExSome, 0)}, nots(5000, a), doubles(5000), sums(5000),
	} {
		if err := expr.Right(row); err != api.OK {
			t.Errorf("Right(%.100v) is %d", row, err)
		}
	}
	for kind := api.ExOr; kind <= api.ExMul; kind++ {
		if err := expr.Right(exprs(a, two(kind, 0, 0), a, two(kind, 2, 1))); err != api.OK {
			t.Errorf("Right of kind %d is %d", kind, err)
		}
		for _, e := range []api.Expr{
			two(kind, 2, 0), two(kind, 0, 2), two(kind, 3, 0), two(kind, 0, 3), two(kind, -1, 0), two(kind, 0, -1), two(kind, math.MaxInt, 0), two(kind, 0, math.MinInt), two(kind, 2, 2),
			{Kind: kind, Var: "a"}, {Kind: kind, Prop: "a"}, {Kind: kind, Value: api.Value{Kind: api.Bool}}, {Kind: kind, Value: api.Value{Num: 1}}, {Kind: kind, Value: api.Value{Text: "a"}},
		} {
			if err := expr.Right(exprs(a, a, e, a)); err != api.ErrArg {
				t.Errorf("Right of %v is %d", e, err)
			}
		}
		if err := expr.Right(exprs(two(kind, 0, 0))); err != api.ErrArg {
			t.Errorf("Right of kind %d alone is %d", kind, err)
		}
	}
	for name, row := range wrong() {
		if err := expr.Right(row); err != api.ErrArg {
			t.Errorf("Right of %s is %d", name, err)
		}
	}
}

// nothing holds that of a row, at a place, nothing is told.
func nothing(t *testing.T, name string, row []api.Expr, i int) {
	t.Helper()
	if l, ok := expr.Tokens(row, i); ok || len(l) != 0 {
		t.Errorf("Tokens of %s at %d are %v, %v", name, i, l, ok)
	}
	if l := expr.Vars(row, i); len(l) != 0 {
		t.Errorf("Vars of %s at %d are %q", name, i, l)
	}
	if n := expr.Depth(row, i); n != 0 {
		t.Errorf("Depth of %s at %d is %d", name, i, n)
	}
}

func TestWrongRowsAndPlacesP19_1(t *testing.T) {
	for name, row := range wrong() {
		for i := range row {
			nothing(t, name, row, i)
		}
		// Also where it isn't used.
		more := slices.Concat(exprs(variable("x")), row)
		for i := range more {
			more[i].L, more[i].R = 0, 0
		}
		if expr.Right(more) != api.OK {
			nothing(t, name, more, 0)
		}
	}
	good := exprs(variable("a"), integer(1), two(api.ExAdd, 0, 1))
	for _, row := range [][]api.Expr{nil, {}, good} {
		for _, i := range []int{-1, -2, len(row), len(row) + 1, math.MaxInt, math.MinInt, 4096} {
			nothing(t, "a row", row, i)
		}
	}
}

func TestVarsP19_1(t *testing.T) {
	row := exprs(
		variable("b"), prop("a", "z"), many("c", "y"), variable("b"), val(api.Node, 0, "n"), // 0 to 4
		two(api.ExAdd, 0, 1), two(api.ExMul, 2, 3), two(api.ExEq, 5, 6), one(api.ExNot, 7), one(api.ExNull, 1), // 5 to 9
		two(api.ExAnd, 4, 4), variable("B"), variable("a1"), variable("aa"), two(api.ExOr, 11, 12), two(api.ExOr, 14, 13), two(api.ExOr, 15, 1), // 10 to 16
	)
	for i, want := range [][]string{
		{"b"}, {"a"}, {"c"}, {"b"}, nil, {"a", "b"}, {"b", "c"}, {"a", "b", "c"}, {"a", "b", "c"}, {"a"}, nil, {"B"}, {"a1"}, {"aa"}, {"B", "a1"}, {"B", "a1", "aa"}, {"B", "a", "a1", "aa"},
	} {
		if got := expr.Vars(row, i); !slices.Equal(got, want) {
			t.Errorf("Vars at %d are %q, not %q", i, got, want)
		}
	}
	for _, row := range [][]api.Expr{doubles(5000), nots(5000, many("a", "b")), sums(5000)} {
		if got := expr.Vars(row, len(row)-1); !slices.Equal(got, []string{"a"}) {
			t.Errorf("Vars are %q", got)
		}
	}
	if got := expr.Vars(exprs(variable("a"), variable("b")), 1); !slices.Equal(got, []string{"b"}) {
		t.Errorf("Vars are %q", got)
	}
}

func TestDepthP19_1(t *testing.T) {
	row := exprs(
		variable("b"), prop("a", "z"), many("c", "y"), integer(-1), // 0 to 3
		two(api.ExAdd, 0, 1), two(api.ExMul, 4, 2), two(api.ExMul, 2, 4), two(api.ExEq, 5, 6), one(api.ExNot, 7), one(api.ExNull, 0), one(api.ExSome, 9), two(api.ExOr, 10, 8), two(api.ExOr, 8, 10), two(api.ExOr, 3, 3),
	)
	for i, want := range []int{1, 1, 1, 1, 2, 3, 3, 4, 5, 2, 3, 6, 6, 2} {
		if got := expr.Depth(row, i); got != want {
			t.Errorf("Depth at %d is %d, not %d", i, got, want)
		}
	}
	for _, n := range []int{0, 1, 63, 64, 65, 4094, 4095, 4096, 4097, 1 << 17} {
		for _, row := range [][]api.Expr{nots(n, many("a", "b")), doubles(n), sums(n + 1)} {
			if got := expr.Depth(row, len(row)-1); got != min(n+1, 4096) {
				t.Errorf("Depth of %d in each other is %d", n+1, got)
			}
		}
	}
}

// TestCallsChangeNothingP19_1: what is handed in stays, and no two answers share memory.
func TestCallsChangeNothingP19_1(t *testing.T) {
	row := exprs(variable("b"), prop("a", "z"), two(api.ExAdd, 0, 1), one(api.ExNot, 2))
	was := slices.Clone(row)
	l, _ := expr.Tokens(row, 3)
	kept := slices.Clone(l)
	vars := expr.Vars(row, 3)
	clear(l)
	clear(vars)
	expr.Depth(row, 3)
	expr.Right(row)
	if again, _ := expr.Tokens(row, 3); !slices.Equal(row, was) || !slices.Equal(again, kept) {
		t.Errorf("the row is %v now, its tokens are %v", row, again)
	}
	if again := expr.Vars(row, 3); !slices.Equal(again, []string{"a", "b"}) {
		t.Errorf("Vars are %q now", again)
	}
}
