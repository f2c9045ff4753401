package parse_test

import (
	"math"
	"math/rand"
	"slices"
	"strconv"
	"strings"
	"testing"

	"hedgerow/api"
	"hedgerow/expr"
	"hedgerow/lex"
	"hedgerow/parse"
)

// each goes through all rows of at most so many of the tokens.
func each(l []api.Token, most int, f func([]api.Token)) {
	row := make([]api.Token, 0, most)
	var on func()
	on = func() {
		f(row)
		if len(row) == most {
			return
		}
		for _, t := range l {
			row = append(row, t)
			on()
			row = row[:len(row)-1]
		}
	}
	on()
}

func TestAllShortRowsP20_1P20_2(t *testing.T) {
	for _, c := range []struct {
		ahead, s, behind string
		most             int
	}{
		{"MATCH (", "a @ : ) (", "RETURN 1", 5},
		{"MATCH ( ) ", "( ) - [ ] -> <-", "RETURN 1", 5},
		{"MATCH ( ) - [", "a : * 1 2 .. ]", "-> ( ) RETURN 1", 5},
		{"MATCH ( ) <- [", "a : * 3 .. ] -", "( ) DELETE a", 5},
		{"", "OPTIONAL MATCH ( ) WHERE a", "RETURN 1", 6},
		{"MATCH ( )", "MATCH ( ) OPTIONAL WHERE a RETURN DELETE", "", 5},
		{"RETURN", "COUNT ( * ) , a", "", 6},
		{"RETURN", "DISTINCT SUM ( ) a , COUNT", "", 5},
		{"RETURN", "a , ORDER BY 1 DESC SKIP LIMIT", "", 4},
		{"RETURN a , b ORDER", "BY 0 1 2 3 , DESC", "", 5},
		{"RETURN a ORDER BY 1", "DESC , 1 SKIP LIMIT 0", "", 5},
		{"CREATE", "@ a : - -> CREATE", "", 6},
		{"SET", "a . : = SET 1", "", 6},
		{"REMOVE", "a . : REMOVE = @", "", 6},
		{"DELETE", "a DELETE , . : CREATE", "", 5},
		{"SET a . b = ", "1 SET a : + REMOVE", "", 5},
	} {
		ahead, behind := toks(c.ahead), toks(c.behind)
		some := false
		each(toks(c.s), c.most, func(l []api.Token) {
			some = asked(t, slices.Concat(ahead, l, behind)) || some
		})
		if !some {
			t.Errorf("%s %s %s: no row is a query", c.ahead, c.s, c.behind)
		}
	}
	all := append(toks("a 0 1 'x'"), toks(strings.Join(lex.Words(), " "))...)
	each(append(all, toks(strings.Join(lex.Signs(), " "))...), 3, func(l []api.Token) { asked(t, l) })
}

// grower grows queries, by the grammar, of no pattern.
type grower struct{ *rand.Rand }

// some is one of some texts.
func (g grower) some(texts ...string) string { return texts[g.Intn(len(texts))] }

func (g grower) name() string { return g.some("a", "b", "c", "P", "n1", "match") }

// maybe is a text, or none.
func (g grower) maybe(s string) string { return g.some("", s) }

// often are some of a thing, with a text between.
func (g grower) often(least int, between string, one func() string) string {
	var l []string
	for range least + g.Intn(3) {
		l = append(l, one())
	}
	return strings.Join(l, between)
}

func (g grower) labels() string {
	return g.often(0, " ", func() string { return ": " + g.name() })
}

func (g grower) number() string { return g.some("0", "1", "17", "1099511627776") }

// expression is one, with brackets that it needs, or doesn't.
func (g grower) expression() string {
	switch g.Intn(9) {
	case 0:
		return "( " + g.expression() + " )"
	case 1:
		return "NOT " + g.expression()
	case 2:
		return "( " + g.expression() + " ) " + g.some("=", "<>", "<", "+", "-", "*", "AND", "OR") + " " + g.some("1", "a", "a . b")
	case 3:
		return g.name() + " IS " + g.maybe("NOT") + " NULL"
	case 4:
		return "MANY ( a . b )"
	}
	return g.some("1", "- 2", "'x'", "a", "a . b", "@ a", "TRUE", "NULL", "b", "c . P + 1")
}

func (g grower) spot() string {
	return "( " + g.maybe(g.name()) + " " + g.maybe("@ "+g.name()) + " " + g.labels() + " )"
}

func (g grower) rel() string {
	inner := g.maybe(g.name()) + " " + g.maybe(": "+g.name())
	if g.Intn(3) == 0 {
		low := 1 + g.Intn(8)
		inner = g.maybe(": "+g.name()) + " * " + strconv.Itoa(low) + " .. " + strconv.Itoa(low+g.Intn(9-low))
	}
	return g.some("- [ "+inner+" ] ->", "<- [ "+inner+" ] -")
}

func (g grower) match() string {
	return g.maybe("OPTIONAL") + " MATCH " + g.spot() + " " + g.often(0, " ", func() string { return g.rel() + " " + g.spot() }) + " " + g.maybe("WHERE "+g.expression())
}

func (g grower) item() string {
	if g.Intn(3) == 0 {
		return g.some("COUNT", "SUM", "MIN", "MAX") + " ( " + g.expression() + " )"
	}
	return g.some("COUNT ( * )", g.expression(), g.expression())
}

func (g grower) result() string {
	// There is a column 1 always.
	sort := func() string { return "1 " + g.maybe("DESC") }
	return "RETURN " + g.maybe("DISTINCT") + " " + g.often(1, " , ", g.item) + " " + g.maybe("ORDER BY "+g.often(1, " , ", sort)) + " " + g.maybe("SKIP "+g.number()) + " " + g.maybe("LIMIT "+g.number())
}

func (g grower) mutation() string {
	a, s := g.name(), g.name()
	ref := func() string { return g.maybe("@") + " " + g.name() }
	return g.some("CREATE @ "+a+" "+g.labels(), "CREATE "+ref()+" - : "+s+" -> "+ref(), "SET "+a+" . "+s+" = "+g.expression(), "SET "+a+" : "+s, "REMOVE "+a+" . "+s, "REMOVE "+a+" : "+s, "DELETE "+a)
}

func (g grower) query() string {
	return g.often(0, " ", g.match) + " " + g.some(g.result(), g.often(1, " ", g.mutation))
}

func TestGrownP20_1P20_2(t *testing.T) {
	g := grower{rand.New(rand.NewSource(1))}
	marks := slices.Concat(toks("a 0 1 'x'"), toks(strings.Join(lex.Words(), " ")), toks(strings.Join(lex.Signs(), " ")), mayNot())
	for range 4000 {
		l := toks(g.query())
		if !asked(t, l) {
			t.Fatalf("%s is no query", text(l))
		}
		// What is close to it, too.
		for range 4 {
			i, x := g.Intn(len(l)), marks[g.Intn(len(marks))]
			asked(t, slices.Insert(slices.Clone(l), i, x))
			asked(t, slices.Delete(slices.Clone(l), i, i+1))
			near := slices.Clone(l)
			near[i] = x
			asked(t, near)
			asked(t, l[:i])
			asked(t, l[i:])
		}
	}
}

// TestNoBlanksP20_1: a text's blanks count for nothing, where its tokens are the same.
func TestNoBlanksP20_1(t *testing.T) {
	g := grower{rand.New(rand.NewSource(2))}
	asked := 0
	for range 2000 {
		s := strings.Join(strings.Fields(g.query()), " ")
		tight := s
		for _, sign := range lex.Signs() {
			tight = strings.ReplaceAll(tight, " "+sign+" ", sign)
		}
		l, err := lex.Tokens(s)
		if again, tightErr := lex.Tokens(tight); err != api.OK || tightErr != api.OK || !slices.Equal(again, l) {
			continue
		}
		asked++
		want, wantErr := parse.Query(l)
		if q, err := parse.Text(tight); err != wantErr || err != api.OK || !same(q, want) {
			t.Fatalf("Text(%s) is %+v, %d, not %+v", tight, q, err, want)
		}
	}
	if asked < 500 {
		t.Errorf("only %d were asked", asked)
	}
}

// someRow is a row that may be, of no pattern.
func someRow(r *rand.Rand, size int) []api.Expr {
	var row []api.Expr
	for i := range size {
		switch k := r.Intn(6); {
		case i == 0 || k == 0:
			row = append(row, integer(r.Intn(9)-4))
		case k == 1:
			row = append(row, variable("a"))
		case k == 2:
			row = append(row, prop("a", "b"))
		case k == 3:
			row = append(row, api.Expr{Kind: 5 + r.Intn(3), L: r.Intn(i)})
		default:
			row = append(row, two(8+r.Intn(11), r.Intn(i), r.Intn(i)))
		}
	}
	return row
}

// someQuery is one that may be, with expressions in any order, some of them used again and again, or not at all.
func someQuery(g grower) api.Query {
	q, err := parse.Query(toks(g.query()))
	if err != api.OK {
		panic(err)
	}
	q.Exprs = someRow(g.Rand, 1+g.Intn(8))
	place := func(i *int) {
		if *i >= 0 {
			*i = g.Intn(len(q.Exprs))
		}
	}
	for i := range q.Matches {
		place(&q.Matches[i].Where)
	}
	for i := range q.Items {
		place(&q.Items[i].Expr)
	}
	for i := range q.Muts {
		place(&q.Muts[i].Expr)
	}
	return q
}

// laid are the tokens of a query as they would be, if it might be: each expression is in brackets that it needn't have.
func laid(q api.Query) []api.Token {
	var l []api.Token
	put := func(texts ...string) {
		for _, s := range texts {
			l = append(l, toks(s)...)
		}
	}
	name := func(ahead, s string) {
		if s != "" {
			put(ahead)
			l = append(l, named(s))
		}
	}
	number := func(n int) { l = append(l, api.Token{Kind: api.TokNum, Num: n}) }
	expression := func(i int) {
		if few, ok := expr.Tokens(q.Exprs, i); ok {
			l = append(append(append(l, toks("(")...), few...), toks(")")...)
		}
	}
	ref := func(r api.Ref) {
		name("", r.Var)
		name("@", r.Key)
	}
	labels := func(l []string) {
		for _, s := range l {
			put(":")
			name("", s)
			if s == "" {
				put("MATCH")
			}
		}
	}
	for _, m := range q.Matches {
		if m.Optional {
			put("OPTIONAL")
		}
		put("MATCH")
		for i := range max(len(m.Spots), len(m.Rels)) {
			if i < len(m.Spots) {
				s := m.Spots[i]
				put("(")
				name("", s.Var)
				name("@", s.Key)
				labels(s.Labels)
				put(")")
			}
			if i < len(m.Rels) {
				r := m.Rels[i]
				put(map[bool]string{false: "- [", true: "<- ["}[r.Back])
				name("", r.Var)
				name(":", r.Type)
				if r.Low != 0 || r.High != 0 {
					put("*")
					number(r.Low)
					put("..")
					number(r.High)
				}
				put(map[bool]string{false: "] ->", true: "] -"}[r.Back])
			}
		}
		if m.Where != -1 {
			put("WHERE")
			expression(m.Where)
		}
	}
	for _, m := range q.Muts {
		put(map[int]string{1: "CREATE", 2: "CREATE", 3: "SET", 4: "SET", 5: "REMOVE", 6: "REMOVE", 7: "DELETE"}[m.Kind])
		ref(m.A)
		name(map[int]string{2: "- :", 3: ".", 4: ":", 5: ".", 6: ":"}[m.Kind], m.Name)
		labels(m.Labels)
		put(map[int]string{2: "->", 3: "="}[m.Kind])
		ref(m.B)
		if m.Expr != -1 {
			expression(m.Expr)
		}
	}
	for i, it := range q.Items {
		if i == 0 {
			put("RETURN")
			if q.Distinct {
				put("DISTINCT")
			}
		} else {
			put(",")
		}
		put(map[int]string{1: "COUNT ( *", 2: "COUNT (", 3: "SUM (", 4: "MIN (", 5: "MAX ("}[it.Kind])
		if it.Expr != -1 {
			expression(it.Expr)
		}
		if it.Kind != 0 {
			put(")")
		}
	}
	for i, s := range q.Sorts {
		put(map[bool]string{true: "ORDER BY", false: ","}[i == 0])
		number(s.Column)
		if s.Desc {
			put("DESC")
		}
	}
	if q.Skip != -1 {
		put("SKIP")
		number(q.Skip)
	}
	if q.Limit != -1 {
		put("LIMIT")
		number(q.Limit)
	}
	return l
}

// spelt is a query with each expression's tokens in place of its place: nothing else of its row is left.
func spelt(q api.Query) (api.Query, []string, bool) {
	row := q.Exprs
	q = plain(q)
	q.Exprs = nil
	var texts []string
	all := true
	spell := func(i *int, none bool) {
		if none && *i == -1 {
			return
		}
		l, ok := expr.Tokens(row, *i)
		s, _ := lex.Text(l)
		texts, all, *i = append(texts, s), all && ok, 0
	}
	for i := range q.Matches {
		spell(&q.Matches[i].Where, true)
	}
	for i := range q.Items {
		spell(&q.Items[i].Expr, q.Items[i].Kind == 1)
	}
	for i := range q.Muts {
		spell(&q.Muts[i].Expr, q.Muts[i].Kind != 3)
	}
	return q, texts, all
}

// modelRight asks whether a query may be: the model reads it of its tokens, with the same expressions, in whatever order.
func modelRight(q api.Query) bool {
	want, texts, ok := spelt(q)
	if expr.Right(q.Exprs) != api.OK || !ok {
		return false
	}
	read, _, err := modelQuery(laid(q))
	got, readTexts, _ := spelt(read)
	return err == api.OK && same(got, want) && slices.Equal(readTexts, texts)
}

func TestAnyQueriesP20_1(t *testing.T) {
	g := grower{rand.New(rand.NewSource(3))}
	for range 4000 {
		q := someQuery(g)
		before := plain(q)
		if err := parse.Right(q); err != api.OK {
			t.Fatalf("Right(%+v) is %d", q, err)
		}
		l, ok := parse.Tokens(q)
		if !ok || !modelRight(q) {
			t.Fatalf("Tokens(%+v) tells %s, %v", q, text(l), ok)
		}
		read, err := parse.Query(l)
		got, texts, _ := spelt(read)
		want, wantTexts, _ := spelt(q)
		if err != api.OK || !same(got, want) || !slices.Equal(texts, wantTexts) {
			t.Fatalf("Tokens(%+v) are %s, which are read as %+v, %d", q, text(l), read, err)
		}
		// Those with the fewest brackets are told again of what they are.
		if few, ok := parse.Tokens(read); !ok || !slices.Equal(few, l) {
			t.Fatalf("%s are told again as %s", text(l), text(few))
		}
		if s, ok := parse.String(q); !ok || s != text(l) {
			t.Fatalf("String(%+v) is %s, %v", q, s, ok)
		}
		if !same(q, before) {
			t.Fatalf("%+v was changed", before)
		}
	}
}

// wrongs are numbers and texts, some of which may not be where they come to stand.
func wrongs(r *rand.Rand) (int, string) {
	n := []int{0, 1, 2, 3, 4, 5, 6, 7, 8, 9, -1, -2, api.MaxNum, api.MaxNum + 1, math.MaxInt, math.MinInt}[r.Intn(16)]
	s := []string{"", "a", "b", "MATCH", "NULL", "1", "a b", "é", "@", strings.Repeat("n", 16), strings.Repeat("n", 17)}[r.Intn(11)]
	return n, s
}

// turned is a query with another thing in one of its places.
func turned(r *rand.Rand, q api.Query) api.Query {
	q = plain(q)
	n, s := wrongs(r)
	one := func(size int) (int, bool) {
		if size == 0 {
			return 0, false
		}
		return r.Intn(size), true
	}
	switch k := r.Intn(12); k {
	case 0:
		q.Distinct = !q.Distinct
	case 1:
		q.Skip = n
	case 2:
		q.Limit = n
	case 3:
		q.Sorts = append(q.Sorts, api.Sort{Column: n})
	case 4:
		q.Items = append(q.Items, api.Item{Kind: n, Expr: r.Intn(4) - 1})
	case 5:
		q.Exprs = append(q.Exprs, api.Expr{Kind: n, Var: s})
	case 6:
		q.Exprs = q.Exprs[:r.Intn(len(q.Exprs)+1)]
	case 7:
		q.Items = nil
	case 8, 9:
		if i, ok := one(len(q.Matches)); ok {
			turnMatch(r, &q.Matches[i])
		}
	default:
		if i, ok := one(len(q.Muts)); ok {
			turnMut(r, &q.Muts[i])
		} else if i, ok := one(len(q.Items)); ok {
			if r.Intn(2) == 0 {
				q.Items[i].Kind = n
			} else {
				q.Items[i].Expr = n
			}
		}
	}
	return q
}

func turnMatch(r *rand.Rand, m *api.Match) {
	n, s := wrongs(r)
	switch k := r.Intn(10); {
	case k == 0:
		m.Where = n
	case k == 1:
		m.Spots = m.Spots[:max(len(m.Spots)-1, 0)]
	case k == 2:
		m.Spots = append(m.Spots, api.Spot{Var: s})
	case k == 3:
		m.Rels = append(m.Rels, api.Rel{Type: s})
	case len(m.Spots) == 0:
		m.Where = n
	case k < 7 || len(m.Rels) == 0:
		spot := &m.Spots[r.Intn(len(m.Spots))]
		switch r.Intn(3) {
		case 0:
			spot.Var = s
		case 1:
			spot.Key = s
		default:
			spot.Labels = append(spot.Labels, s)
		}
	default:
		rel := &m.Rels[r.Intn(len(m.Rels))]
		switch r.Intn(5) {
		case 0:
			rel.Var = s
		case 1:
			rel.Type = s
		case 2:
			rel.Low = n
		case 3:
			rel.High = n
		default:
			rel.Low, rel.High = r.Intn(10), r.Intn(10)
		}
	}
}

func turnMut(r *rand.Rand, m *api.Mut) {
	n, s := wrongs(r)
	switch r.Intn(8) {
	case 0:
		m.Kind = n
	case 1:
		m.A.Var = s
	case 2:
		m.A.Key = s
	case 3:
		m.B.Var = s
	case 4:
		m.B.Key = s
	case 5:
		m.Name = s
	case 6:
		m.Labels = append(m.Labels, s)
	default:
		m.Expr = n
	}
}

func TestTurnedP20_1P5(t *testing.T) {
	g := grower{rand.New(rand.NewSource(4))}
	told := map[api.Errno]int{}
	for range 30000 {
		q := someQuery(g)
		for range 1 + g.Intn(2) {
			q = turned(g.Rand, q)
		}
		before := plain(q)
		want := api.OK
		if !modelRight(q) {
			want = api.ErrArg
		}
		err := parse.Right(q)
		if told[err]++; err != want {
			t.Fatalf("Right(%+v) is %d, not %d", q, err, want)
		}
		l, ok := parse.Tokens(q)
		s, sok := parse.String(q)
		if ok != (want == api.OK) || sok != ok || !ok && (len(l) > 0 || s != "") {
			t.Fatalf("Tokens(%+v) are %s, %v, their text %s, %v", q, text(l), ok, s, sok)
		}
		if !same(q, before) {
			t.Fatalf("%+v was changed", before)
		}
	}
	if told[api.OK] < 1000 || told[api.ErrArg] < 1000 {
		t.Errorf("of the queries only so many may be, or not: %v", told)
	}
}

// TestAnyTokensP20_1P5 asks Query of rows of any tokens, and Text of any bytes.
func TestAnyTokensP20_1P5(t *testing.T) {
	const bytes = "MATCHRETURN ()-[]<>:,.*@'\\=+a1\x00\xff"
	r := rand.New(rand.NewSource(5))
	all := slices.Concat(mayNot(), toks(wholes()[0]), toks(wholes()[1]))
	for range 30000 {
		var l []api.Token
		for range r.Intn(12) {
			l = append(l, all[r.Intn(len(all))])
		}
		asked(t, l)
		b := make([]byte, r.Intn(40))
		for i := range b {
			b[i] = bytes[r.Intn(len(bytes))]
		}
		q, err := parse.Text(string(b))
		if tokens, lexErr := lex.Tokens(string(b)); lexErr != api.OK {
			if err != lexErr || !nothing(q) {
				t.Fatalf("Text(%q) tells %d, not %d", b, err, lexErr)
			}
		} else if want, wantErr := parse.Query(tokens); err != wantErr || !same(q, want) {
			t.Fatalf("Text(%q) tells %d, not %d", b, err, wantErr)
		}
	}
	// Rows that don't end with what they begin.
	for _, s := range []string{"(", "MATCH", "MATCH (", "RETURN (", "RETURN NOT", "RETURN 1 ,", "CREATE @ a", "MATCH ( ) - [ ] ->", "MATCH ( a : P", "SET a . b = 1", "RETURN 1 ORDER BY 1 ,", "RETURN 1 +", "OPTIONAL"} {
		l := toks(s)
		for range 500 {
			l = append(l, toks(s)...)
		}
		asked(t, l)
	}
}
