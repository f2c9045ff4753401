package expr_test

import (
	"math"
	"math/rand"
	"slices"
	"strings"
	"testing"

	"hedgerow/api"
	"hedgerow/expr"
	"hedgerow/lex"
)

// each goes through all rows of at most so many of the tokens.
func each(l []api.Token, most int, f func([]api.Token)) {
	row := make([]api.Token, 0, most)
	var on func()
	on = func() {
		f(row)
		if len(row) == most {
			return
		}
		for _, t := range l {
			row = append(row, t)
			on()
			row = row[:len(row)-1]
		}
	}
	on()
}

func TestAllShortRowsP19_1P19_2(t *testing.T) {
	for _, c := range []struct {
		s    string
		most int
	}{
		{"a OR AND NOT ( )", 7},
		{"a = < IS NULL NOT", 6},
		{"a + - * 1 ( )", 6},
		{"- 0 1 = @ a", 6},
		{"a . MANY ( )", 7},
		{"IS NOT NULL a AND =", 6},
		{"a + = AND ( )", 7},
		{"a NOT = ( ) IS NULL -", 5},
		{"a OR = + * ( )", 6},
	} {
		each(toks(c.s), c.most, func(l []api.Token) { asked(t, l) })
	}
	all := append(toks("a 0 1 'x'"), toks(strings.Join(lex.Words(), " "))...)
	each(append(all, toks(strings.Join(lex.Signs(), " "))...), 3, func(l []api.Token) { asked(t, l) })
}

// grower grows tokens of expressions, by the grammar, of no pattern.
type grower struct {
	*rand.Rand
	left int // how many more parts may be in each other
}

// some is one of some texts.
func (g *grower) some(texts ...string) string { return texts[g.Intn(len(texts))] }

// expression is one, in brackets or not, such as some rule has it.
func (g *grower) expression() string {
	if g.left--; g.left < 0 {
		return g.prim()
	}
	switch g.Intn(9) {
	case 0:
		return g.expression() + " OR " + g.expression()
	case 1:
		return g.expression() + " AND " + g.expression()
	case 2:
		return "NOT " + g.expression()
	case 3:
		return g.side() + " " + g.some("=", "<>", "<", "<=", ">", ">=") + " " + g.side()
	case 4:
		return g.side() + " IS " + g.some("NULL", "NOT NULL")
	case 5:
		return "( " + g.expression() + " )"
	}
	return g.side()
}

// side is a sum, or a product, or a prim.
func (g *grower) side() string {
	if g.left--; g.left < 0 {
		return g.prim()
	}
	switch g.Intn(5) {
	case 0, 1:
		return g.side() + " " + g.some("+", "-") + " " + g.side()
	case 2:
		return g.side() + " * " + g.side()
	case 3:
		return "( " + g.expression() + " )"
	}
	return g.prim()
}

// prim is one without brackets.
func (g *grower) prim() string {
	return g.some("a", "b", "c", "a . b", "b . a", "c . c", "MANY ( a . b )", "0", "1", "- 1", "- 7", "1099511627776", "''", `'\''`, "TRUE", "FALSE", "NULL", "@ a", "@ n1")
}

func TestGrownP19_1P19_2(t *testing.T) {
	g := grower{Rand: rand.New(rand.NewSource(1))}
	marks := slices.Concat(toks("a 0 1 'x' AND OR NOT IS NULL MANY TRUE RETURN"), toks(strings.Join(lex.Signs(), " ")), mayNot())
	for range 6000 {
		g.left = g.Intn(20)
		l := toks(g.expression())
		if _, _, n, err := expr.Parse(l, nil); err != api.OK || n != len(l) {
			t.Fatalf("Parse(%s) tells %d, %d", text(l), n, err)
		}
		asked(t, l)
		// What is close to it, too.
		for range 6 {
			i, x := g.Intn(len(l)), marks[g.Intn(len(marks))]
			asked(t, slices.Insert(slices.Clone(l), i, x))
			asked(t, slices.Delete(slices.Clone(l), i, i+1))
			near := slices.Clone(l)
			near[i] = x
			asked(t, near)
			asked(t, l[:i])
			asked(t, l[i:])
		}
	}
}

// TestBracketsP19_2: what is parsed has its tokens, but for brackets.
func TestBracketsP19_2(t *testing.T) {
	noBrackets := func(l []api.Token) []api.Token {
		return slices.DeleteFunc(slices.Clone(l), func(x api.Token) bool { return is(x, "(", ")") })
	}
	g := grower{Rand: rand.New(rand.NewSource(2))}
	for range 6000 {
		g.left = g.Intn(30)
		l := append(toks(g.expression()), toks(g.some(")", "a", ", b", "RETURN", "..", ""))...)
		row, place, n, err := expr.Parse(l, exprs(integer(3), one(api.ExNot, 0)))
		if err != api.OK {
			t.Fatalf("Parse(%s) tells %d", text(l), err)
		}
		told, ok := expr.Tokens(row, place)
		if !ok || len(told) > n || !slices.Equal(noBrackets(told), noBrackets(l[:n])) {
			t.Fatalf("%s has the tokens %s, %v", text(l), text(told), ok)
		}
		again, place, n, err := expr.Parse(told, exprs(integer(3), one(api.ExNot, 0)))
		if err != api.OK || n != len(told) || place != len(row)-1 || !slices.Equal(again, row) {
			t.Fatalf("%s are parsed as %v, %d, %d, %d, not as %v", text(told), again, place, n, err, row)
		}
	}
}

// someRow is a row that may be, of no pattern.
func someRow(r *rand.Rand, size int) []api.Expr {
	name := func() string { return []string{"a", "b", "B", "n1", "z_"}[r.Intn(5)] }
	var row []api.Expr
	for i := range size {
		switch k := r.Intn(12); {
		case i == 0 || k == 0:
			row = append(row, []api.Expr{integer(r.Intn(9) - 4), val(api.Bool, r.Intn(2), ""), val(api.Null, 0, ""), val(api.Text, 0, name()), val(api.Node, 0, name())}[r.Intn(5)])
		case k == 1:
			row = append(row, variable(name()))
		case k == 2:
			row = append(row, []api.Expr{prop(name(), name()), many(name(), name())}[r.Intn(2)])
		case k < 6:
			row = append(row, one(5+r.Intn(3), r.Intn(i)))
		default:
			row = append(row, two(8+r.Intn(11), r.Intn(i), r.Intn(i)))
		}
	}
	return row
}

// modelBelow tells the variables of the expression at a place into a set, and how deep it is.
func modelBelow(row []api.Expr, i int, into map[string]bool) int {
	e := row[i]
	if e.Var != "" {
		into[e.Var] = true
	}
	switch {
	case e.Kind >= 8:
		return 1 + max(modelBelow(row, e.L, into), modelBelow(row, e.R, into))
	case e.Kind >= 5:
		return 1 + modelBelow(row, e.L, into)
	}
	return 1
}

// bracketed are the tokens of the expression at a place, with each side in brackets.
func bracketed(row []api.Expr, i int) []api.Token {
	e := row[i]
	side := func(i int) []api.Token { return slices.Concat(toks("("), bracketed(row, i), toks(")")) }
	switch {
	case e.Kind >= 8:
		return slices.Concat(side(e.L), toks(twoSided[e.Kind]), side(e.R))
	case e.Kind == 7:
		return append(side(e.L), toks("IS NOT NULL")...)
	case e.Kind == 6:
		return append(side(e.L), toks("IS NULL")...)
	case e.Kind == 5:
		return append(toks("NOT"), side(e.L)...)
	}
	return toks(shape(row, i))
}

func TestAnyRowsP19_1(t *testing.T) {
	r := rand.New(rand.NewSource(3))
	for range 4000 {
		row := someRow(r, 1+r.Intn(10))
		if err := expr.Right(row); err != api.OK {
			t.Fatalf("Right(%v) is %d", row, err)
		}
		for i := range row {
			set := map[string]bool{}
			deep := modelBelow(row, i, set)
			if got := expr.Depth(row, i); got != deep {
				t.Fatalf("Depth(%v, %d) is %d, not %d", row, i, got, deep)
			}
			names := expr.Vars(row, i)
			if !slices.IsSorted(names) || len(names) != len(set) || slices.ContainsFunc(names, func(s string) bool { return !set[s] }) {
				t.Fatalf("Vars(%v, %d) are %q", row, i, names)
			}
			whole := bracketed(row, i)
			l, ok := expr.Tokens(row, i)
			if !ok || tree(l) != shape(row, i) || len(l) > len(whole) {
				t.Fatalf("Tokens(%v, %d) are %s, %v, not %s", row, i, text(l), ok, shape(row, i))
			}
			if len(whole) > 120 {
				continue
			}
			if want := bare(whole); !slices.Equal(l, want) {
				t.Fatalf("Tokens(%v, %d) are %s, not %s", row, i, text(l), text(want))
			}
		}
	}
}

// modelRight asks whether an expression may be at a place, as the chapter says it.
func modelRight(e api.Expr, at int) bool {
	name := func(s string) bool {
		l, err := lex.Tokens(s)
		return err == api.OK && len(l) == 1 && l[0] == named(s)
	}
	place := func(i int) bool { return i >= 0 && i < at }
	noNames, noSides, noValue := e.Var == "" && e.Prop == "", e.L == 0 && e.R == 0, e.Value == api.Value{}
	switch {
	case e.Kind == 1:
		l, err := lex.Tokens(shapeValue(e.Value))
		may := map[int]bool{0: e.Value == api.Value{}, 1: e.Value.Text == "", 2: e.Value.Text == "", 3: e.Value.Num == 0, 4: e.Value.Num == 0 && name(e.Value.Text)}[e.Value.Kind]
		return may && err == api.OK && len(l) > 0 && noNames && noSides
	case e.Kind == 2:
		return name(e.Var) && e.Prop == "" && noSides && noValue
	case e.Kind == 3 || e.Kind == 4:
		return name(e.Var) && name(e.Prop) && noSides && noValue
	case e.Kind >= 5 && e.Kind <= 7:
		return place(e.L) && e.R == 0 && noNames && noValue
	}
	return e.Kind >= 8 && e.Kind <= 18 && place(e.L) && place(e.R) && noNames && noValue
}

// turned is an expression with another thing in one of its fields.
func turned(r *rand.Rand, e api.Expr) api.Expr {
	n := []int{0, 1, 2, 3, 4, 5, -1, 19, api.MaxNum + 1, math.MaxInt, math.MinInt}[r.Intn(11)]
	s := []string{"", "a", "AND", "1", "a b", "é", "n>K>n", strings.Repeat("n", 17), strings.Repeat("n", 65)}[r.Intn(9)]
	switch r.Intn(8) {
	case 0:
		e.Kind = r.Intn(22) - 1
	case 1:
		e.Value.Kind = r.Intn(8) - 1
	case 2:
		e.Value.Num = n
	case 3:
		e.Value.Text = s
	case 4:
		e.Var = s
	case 5:
		e.Prop = s
	case 6:
		e.L = n
	case 7:
		e.R = n
	}
	return e
}

// TestAnyRowsP5 asks all calls of rows of which one expression was turned, and of tokens of no pattern: a panic fails it, and so does what doesn't end.
func TestAnyRowsP5(t *testing.T) {
	r := rand.New(rand.NewSource(4))
	for range 20000 {
		row := someRow(r, 1+r.Intn(6))
		for range 1 + r.Intn(2) {
			i := r.Intn(len(row))
			row[i] = turned(r, row[i])
		}
		want := api.OK
		for i, e := range row {
			if !modelRight(e, i) {
				want = api.ErrArg
			}
		}
		if err := expr.Right(row); err != want {
			t.Fatalf("Right(%+v) is %d, not %d", row, err, want)
		}
		for _, i := range []int{-1, 0, len(row) - 1, len(row), math.MaxInt, math.MinInt} {
			l, ok := expr.Tokens(row, i)
			if may := want == api.OK && i >= 0 && i < len(row); ok != may || (len(l) > 0) != may || (expr.Depth(row, i) > 0) != may {
				t.Fatalf("Tokens(%+v, %d) are %v, %v", row, i, l, ok)
			}
			if names := expr.Vars(row, i); want != api.OK && len(names) > 0 {
				t.Fatalf("Vars(%+v, %d) are %q", row, i, names)
			}
		}
	}
	pieces := slices.Concat(toks("a b 0 1 'x'"), toks(strings.Join(lex.Words(), " ")), toks(strings.Join(lex.Signs(), " ")), mayNot())
	for range 20000 {
		l := make([]api.Token, r.Intn(40))
		for i := range l {
			l[i] = pieces[r.Intn(len(pieces))]
		}
		asked(t, l)
	}
}
