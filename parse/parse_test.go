package parse_test

import (
	"math"
	"slices"
	"strconv"
	"strings"
	"testing"

	"hedgerow/api"
	"hedgerow/lex"
	"hedgerow/parse"
)

// toks are a text's tokens.
func toks(s string) []api.Token {
	var l []api.Token
	// By words, as a long text is none that lex takes.
	for _, word := range strings.Fields(s) {
		more, err := lex.Tokens(word)
		if err != api.OK {
			panic(word)
		}
		l = append(l, more...)
	}
	return l
}

func named(s string) api.Token { return api.Token{Kind: api.TokName, Text: s} }

func integer(n int) api.Expr {
	return api.Expr{Kind: api.ExValue, Value: api.Value{Kind: api.Int, Num: n}}
}
func variable(s string) api.Expr     { return api.Expr{Kind: api.ExVar, Var: s} }
func prop(s, p string) api.Expr      { return api.Expr{Kind: api.ExProp, Var: s, Prop: p} }
func two(kind, l, r int) api.Expr    { return api.Expr{Kind: kind, L: l, R: r} }
func exprs(l ...api.Expr) []api.Expr { return l }
func spots(l ...api.Spot) []api.Spot { return l }
func items(l ...api.Item) []api.Item { return l }

// match is one without a Where.
func match(spots []api.Spot, rels ...api.Rel) api.Match {
	return api.Match{Spots: spots, Rels: rels, Where: -1}
}

// result is a query that tells 1 of each row of some matches.
func result(l ...api.Match) api.Query {
	return api.Query{Exprs: exprs(integer(1)), Matches: l, Items: items(api.Item{}), Skip: -1, Limit: -1}
}

// muts is a query with mutations.
func muts(row []api.Expr, l ...api.Mut) api.Query {
	return api.Query{Exprs: row, Muts: l, Skip: -1, Limit: -1}
}

// returns is a query with items.
func returns(row []api.Expr, l ...api.Item) api.Query {
	return api.Query{Exprs: row, Items: l, Skip: -1, Limit: -1}
}

// parses holds the query that a text is against one.
func parses(t *testing.T, s string, want api.Query) {
	t.Helper()
	if q, err := parse.Text(s); err != api.OK || !same(q, want) {
		t.Errorf("Text(%s) is %+v, %d, not %+v", s, q, err, want)
	}
	if q, err := parse.Query(toks(s)); err != api.OK || !same(q, want) {
		t.Errorf("Query(%s) is %+v, %d, not %+v", s, q, err, want)
	}
	asked(t, toks(s))
}

// refuses holds that Query tells an error of tokens, and nothing else.
func refuses(t *testing.T, l []api.Token, want api.Errno) {
	t.Helper()
	if q, err := parse.Query(l); err != want || !nothing(q) {
		t.Errorf("Query(%.300s) is %+v, %d, not %d", text(l), q, err, want)
	}
	asked(t, l)
}

func TestSpotsP20_1(t *testing.T) {
	for s, spot := range map[string]api.Spot{
		"()":          {},
		"(n)":         {Var: "n"},
		"(@k)":        {Key: "k"},
		"(:P)":        {Labels: []string{"P"}},
		"(n@k)":       {Var: "n", Key: "k"},
		"(n @ n)":     {Var: "n", Key: "n"},
		"(n:P)":       {Var: "n", Labels: []string{"P"}},
		"(n:n)":       {Var: "n", Labels: []string{"n"}},
		"(@k:P)":      {Key: "k", Labels: []string{"P"}},
		"(n@k:P:Q:R)": {Var: "n", Key: "k", Labels: []string{"P", "Q", "R"}},
		"(:P:P)":      {Labels: []string{"P", "P"}},
		"(:Q:P)":      {Labels: []string{"Q", "P"}},
		"(nnnnnnnnnnnnnnnn@kkkkkkkkkkkkkkkk:llllllllllllllll)": {Var: "nnnnnnnnnnnnnnnn", Key: "kkkkkkkkkkkkkkkk", Labels: []string{"llllllllllllllll"}},
	} {
		parses(t, "MATCH "+s+" RETURN 1", result(match(spots(spot))))
	}
}

func TestRelsP20_1(t *testing.T) {
	for s, rel := range map[string]api.Rel{
		"[]":         {},
		"[r]":        {Var: "r"},
		"[:T]":       {Type: "T"},
		"[r:T]":      {Var: "r", Type: "T"},
		"[r : r]":    {Var: "r", Type: "r"},
		"[*1..1]":    {Low: 1, High: 1},
		"[*1..8]":    {Low: 1, High: 8},
		"[:T*2..3]":  {Type: "T", Low: 2, High: 3},
		"[* 8 .. 8]": {Low: 8, High: 8},
	} {
		parses(t, "MATCH ()-"+s+"->() RETURN 1", result(match(spots(api.Spot{}, api.Spot{}), rel)))
		rel.Back = true
		parses(t, "MATCH ()<-"+s+"-() RETURN 1", result(match(spots(api.Spot{}, api.Spot{}), rel)))
	}
	a, b, c := api.Spot{Var: "a"}, api.Spot{Key: "b"}, api.Spot{Labels: []string{"c"}}
	parses(t, "MATCH (a)-[x]->(@b)<-[:Y]-(:c)-[*1..2]->(a) RETURN 1", result(match(spots(a, b, c, a), api.Rel{Var: "x"}, api.Rel{Type: "Y", Back: true}, api.Rel{Low: 1, High: 2})))
}

func TestHopsP20_1(t *testing.T) {
	for low := range 11 {
		for high := range 11 {
			s := "MATCH ()-[*" + strconv.Itoa(low) + ".." + strconv.Itoa(high) + "]->() RETURN 1"
			if low >= 1 && low <= high && high <= 8 {
				parses(t, s, result(match(spots(api.Spot{}, api.Spot{}), api.Rel{Low: low, High: high})))
			} else {
				refuses(t, toks(s), api.ErrSyntax)
			}
		}
	}
}

func TestMatchesP20_1(t *testing.T) {
	a, b := api.Spot{Var: "a"}, api.Spot{Var: "b"}
	optional := api.Match{Optional: true, Spots: spots(b), Where: -1}
	parses(t, "RETURN 1", result())
	parses(t, "MATCH (a) MATCH (b) RETURN 1", result(match(spots(a)), match(spots(b))))
	parses(t, "OPTIONAL MATCH (b) RETURN 1", result(optional))
	parses(t, "MATCH (a) OPTIONAL MATCH (b) OPTIONAL MATCH (b) MATCH (a) RETURN 1", result(match(spots(a)), optional, optional, match(spots(a))))
	row := exprs(variable("a"), prop("b", "c"), integer(1), two(api.ExGt, 1, 2), variable("a"), integer(2))
	parses(t, "MATCH (a) WHERE a OPTIONAL MATCH (b) WHERE b.c > 1 MATCH (a) RETURN a, 2", api.Query{
		Exprs: row, Matches: []api.Match{{Spots: spots(a), Where: 0}, {Optional: true, Spots: spots(b), Where: 3}, {Spots: spots(a), Where: -1}},
		Items: items(api.Item{Expr: 4}, api.Item{Expr: 5}), Skip: -1, Limit: -1,
	})
	set := api.Mut{Kind: api.MutSet, A: api.Ref{Var: "a"}, Name: "x", Expr: 1}
	q := muts(exprs(variable("a"), integer(1)), set)
	q.Matches = []api.Match{{Spots: spots(a), Where: 0}}
	parses(t, "MATCH (a) WHERE a SET a.x = 1", q)
	// The example.
	q = returns(exprs(prop("n", "a")), api.Item{})
	q.Matches = []api.Match{match(spots(api.Spot{Var: "n", Labels: []string{"P"}}))}
	parses(t, "MATCH (n:P) RETURN n.a", q)
}

func TestItemsP20_1(t *testing.T) {
	sum := exprs(prop("a", "b"), integer(2), two(api.ExAdd, 0, 1))
	parses(t, "RETURN COUNT(*)", returns(nil, api.Item{Kind: api.ItRows, Expr: -1}))
	for s, kind := range map[string]int{"": api.ItPlain, "COUNT": api.ItCount, "SUM": api.ItSum, "MIN": api.ItMin, "MAX": api.ItMax} {
		parses(t, "RETURN "+s+" (a.b + 2)", returns(sum, api.Item{Kind: kind, Expr: 2}))
		parses(t, "RETURN "+s+" ((a.b + 2))", returns(sum, api.Item{Kind: kind, Expr: 2}))
		parses(t, "RETURN COUNT(*), "+s+"(a)", returns(exprs(variable("a")), api.Item{Kind: api.ItRows, Expr: -1}, api.Item{Kind: kind}))
	}
	parses(t, "RETURN SUM(1), a, MAX(a), COUNT(*), 1", returns(exprs(integer(1), variable("a"), variable("a"), integer(1)), api.Item{Kind: api.ItSum}, api.Item{Expr: 1}, api.Item{Kind: api.ItMax, Expr: 2}, api.Item{Kind: api.ItRows, Expr: -1}, api.Item{Expr: 3}))
	parses(t, "RETURN count", returns(exprs(variable("count")), api.Item{}))
	q := returns(exprs(variable("a"), variable("a")), api.Item{}, api.Item{Expr: 1})
	q.Distinct = true
	parses(t, "RETURN DISTINCT a, a", q)
	q = returns(nil, api.Item{Kind: api.ItRows, Expr: -1})
	q.Distinct = true
	parses(t, "RETURN DISTINCT COUNT(*)", q)
}

func TestSortsP20_1(t *testing.T) {
	with := func(skip, limit int, l ...api.Sort) api.Query {
		q := returns(exprs(variable("a"), variable("b")), api.Item{}, api.Item{Expr: 1})
		q.Sorts, q.Skip, q.Limit = l, skip, limit
		return q
	}
	parses(t, "RETURN a, b ORDER BY 1", with(-1, -1, api.Sort{Column: 1}))
	parses(t, "RETURN a, b ORDER BY 2", with(-1, -1, api.Sort{Column: 2}))
	parses(t, "RETURN a, b ORDER BY 1 DESC", with(-1, -1, api.Sort{Column: 1, Desc: true}))
	parses(t, "RETURN a, b ORDER BY 2 DESC, 1", with(-1, -1, api.Sort{Column: 2, Desc: true}, api.Sort{Column: 1}))
	parses(t, "RETURN a, b ORDER BY 1, 1, 2, 1 DESC", with(-1, -1, api.Sort{Column: 1}, api.Sort{Column: 1}, api.Sort{Column: 2}, api.Sort{Column: 1, Desc: true}))
	parses(t, "RETURN a, b SKIP 0", with(0, -1))
	parses(t, "RETURN a, b LIMIT 0", with(-1, 0))
	parses(t, "RETURN a, b SKIP 7 LIMIT 3", with(7, 3))
	parses(t, "RETURN a, b SKIP 1099511627776 LIMIT 1099511627776", with(api.MaxNum, api.MaxNum))
	parses(t, "RETURN a, b ORDER BY 2 SKIP 1 LIMIT 2", with(1, 2, api.Sort{Column: 2}))
	parses(t, "RETURN a, b ORDER BY 2 DESC LIMIT 2", with(-1, 2, api.Sort{Column: 2, Desc: true}))
	for _, s := range []string{"0", "3", "1099511627776", "1 DESC, 0", "1, 3 DESC", "2, 1, 3"} {
		refuses(t, toks("RETURN a, b ORDER BY "+s), api.ErrSyntax)
	}
}

func TestMutationsP20_1(t *testing.T) {
	a, key, one := api.Ref{Var: "a"}, api.Ref{Key: "k"}, exprs(integer(1))
	for s, m := range map[string]api.Mut{
		"CREATE @k":            {Kind: api.MutNode, A: key, Expr: -1},
		"CREATE @k:P":          {Kind: api.MutNode, A: key, Labels: []string{"P"}, Expr: -1},
		"CREATE @k:P:Q:P":      {Kind: api.MutNode, A: key, Labels: []string{"P", "Q", "P"}, Expr: -1},
		"CREATE a-:T->b":       {Kind: api.MutEdge, A: a, B: api.Ref{Var: "b"}, Name: "T", Expr: -1},
		"CREATE @k-:T->a":      {Kind: api.MutEdge, A: key, B: a, Name: "T", Expr: -1},
		"CREATE a - : T -> @k": {Kind: api.MutEdge, A: a, B: key, Name: "T", Expr: -1},
		"CREATE @k - :T -> @k": {Kind: api.MutEdge, A: key, B: key, Name: "T", Expr: -1},
		"SET a:P":              {Kind: api.MutLabel, A: a, Name: "P", Expr: -1},
		"REMOVE a.x":           {Kind: api.MutDrop, A: a, Name: "x", Expr: -1},
		"REMOVE a:P":           {Kind: api.MutStrip, A: a, Name: "P", Expr: -1},
		"DELETE a":             {Kind: api.MutDelete, A: a, Expr: -1},
	} {
		parses(t, s, muts(nil, m))
		parses(t, s+" "+s, muts(nil, m, m))
		set := api.Mut{Kind: api.MutSet, A: api.Ref{Var: "b"}, Name: "y"}
		parses(t, s+" SET b.y = 1 "+s, muts(one, m, set, m))
	}
	parses(t, "SET a.x = 1", muts(one, api.Mut{Kind: api.MutSet, A: a, Name: "x"}))
	parses(t, "SET a.a = b.x = 2 SET a.x = 1", muts(exprs(prop("b", "x"), integer(2), two(api.ExEq, 0, 1), integer(1)), api.Mut{Kind: api.MutSet, A: a, Name: "a", Expr: 2}, api.Mut{Kind: api.MutSet, A: a, Name: "x", Expr: 3}))
}

// mustStand are texts of tokens that are no query.
func mustStand() []string {
	return []string{
		"", "(a)", "a", "1", "MATCH", "MATCH (a)", "MATCH (a) WHERE a", "OPTIONAL", "OPTIONAL RETURN 1", "OPTIONAL OPTIONAL MATCH (a) RETURN 1", "OPTIONAL (a) RETURN 1", "MATCH OPTIONAL (a) RETURN 1", "MATCH MATCH (a) RETURN 1", "MATCH RETURN 1", "MATCH a RETURN 1", "MATCH (a), (b) RETURN 1", "MATCH (a) (b) RETURN 1", "MATCH (a) WHERE RETURN 1", "MATCH (a) WHERE a WHERE b RETURN 1", "WHERE a RETURN 1", "MATCH WHERE a (a) RETURN 1", "MATCH (a) a RETURN 1", "MATCH (a) WHERE a b RETURN 1", "MATCH (a) WHERE (a RETURN 1", "MATCH (a) WHERE COUNT(*) RETURN 1", "match (a) RETURN 1",
		"MATCH ( RETURN 1", "MATCH (a RETURN 1", "MATCH a) RETURN 1", "MATCH (a b) RETURN 1", "MATCH (a@) RETURN 1", "MATCH (a:) RETURN 1", "MATCH (:P a) RETURN 1", "MATCH (@k a) RETURN 1", "MATCH (:P@k) RETURN 1", "MATCH (a@k@k) RETURN 1", "MATCH (@1) RETURN 1", "MATCH ('a') RETURN 1", "MATCH (a:1) RETURN 1", "MATCH (a::P) RETURN 1", "MATCH (a:P,Q) RETURN 1", "MATCH (a.b) RETURN 1", "MATCH [a] RETURN 1", "MATCH (a] RETURN 1", "MATCH ((a)) RETURN 1", "MATCH (MATCH) RETURN 1", "MATCH (a:SET) RETURN 1", "MATCH (@NULL) RETURN 1", "MATCH (@a@) RETURN 1", "MATCH (- a) RETURN 1",
		"MATCH ()-() RETURN 1", "MATCH ()->() RETURN 1", "MATCH ()-->() RETURN 1", "MATCH ()<-() RETURN 1", "MATCH ()<--() RETURN 1", "MATCH ()-[]-() RETURN 1", "MATCH ()<-[]->() RETURN 1", "MATCH ()->[]->() RETURN 1", "MATCH ()-[]->RETURN 1", "MATCH ()-[]-> -[]->() RETURN 1", "MATCH -[]->() RETURN 1", "MATCH ()-[->() RETURN 1", "MATCH ()-]->() RETURN 1", "MATCH ()-()->() RETURN 1", "MATCH ()<-[]() RETURN 1", "MATCH ()-[]() RETURN 1", "MATCH ()-[r s]->() RETURN 1", "MATCH ()-[r:]->() RETURN 1", "MATCH ()-[r:T:S]->() RETURN 1", "MATCH ()-[:T r]->() RETURN 1", "MATCH ()-[@k]->() RETURN 1", "MATCH ()-[:1]->() RETURN 1", "MATCH ()-[1]->() RETURN 1", "MATCH ()-[BY]->() RETURN 1", "MATCH ()<-[]-<-[]-() RETURN 1", "MATCH ()-[]=>() RETURN 1", "MATCH ()- WHERE a RETURN 1", "MATCH ()-[] WHERE a -> () RETURN 1",
		"MATCH ()-[*]->() RETURN 1", "MATCH ()-[*1]->() RETURN 1", "MATCH ()-[*1..]->() RETURN 1", "MATCH ()-[*..2]->() RETURN 1", "MATCH ()-[*1.2]->() RETURN 1", "MATCH ()-[1..2]->() RETURN 1", "MATCH ()-[*1,2]->() RETURN 1", "MATCH ()-[*1 2]->() RETURN 1", "MATCH ()-[*1..2..3]->() RETURN 1", "MATCH ()-[*a..b]->() RETURN 1", "MATCH ()-[*'1'..2]->() RETURN 1", "MATCH ()-[*-1..2]->() RETURN 1", "MATCH ()-[r*1..2]->() RETURN 1", "MATCH ()-[r:T*1..2]->() RETURN 1", "MATCH ()-[*1..2:T]->() RETURN 1", "MATCH ()-[*1..2 r]->() RETURN 1", "MATCH ()-[*1..2*1..2]->() RETURN 1", "MATCH ()-[* *1..2]->() RETURN 1", "MATCH ()<-[r*1..1]-() RETURN 1",
		"RETURN", "RETURN RETURN 1", "RETURN 1 RETURN 1", "RETURN ,", "RETURN 1,", "RETURN ,1", "RETURN 1,,2", "RETURN 1 2", "RETURN DISTINCT", "RETURN DISTINCT DISTINCT 1", "RETURN 1 DISTINCT", "DISTINCT 1", "RETURN *", "RETURN (*)", "RETURN 1, *", "RETURN 1, DISTINCT 2", "RETURN 1;", "RETURN (1", "RETURN 1)", "RETURN 1 + RETURN 1", "RETURN a b", "RETURN 1 MATCH (a)", "RETURN 1 WHERE a", "RETURN 1 OPTIONAL MATCH (a)", "RETURN @", "RETURN -", "RETURN 1 = 2 = 3",
		"RETURN COUNT", "RETURN COUNT *", "RETURN COUNT(", "RETURN COUNT()", "RETURN COUNT(*", "RETURN COUNT(**)", "RETURN COUNT(* )) ", "RETURN COUNT a", "RETURN COUNT(a", "RETURN COUNT(a, b)", "RETURN COUNT(a b)", "RETURN COUNT((*))", "RETURN COUNT(* + 1)", "RETURN COUNT(*) + 1", "RETURN COUNT(a) + 1", "RETURN 1 + COUNT(a)", "RETURN (COUNT(a))", "RETURN COUNT(COUNT(a))", "RETURN COUNT(SUM(a))", "RETURN COUNT(DISTINCT a)", "RETURN COUNT(RETURN a)", "RETURN SUM(*)", "RETURN MIN(*)", "RETURN MAX(*)", "RETURN SUM()", "RETURN SUM a", "RETURN MIN(a", "RETURN MAX[a]", "RETURN MANY(*)", "RETURN SUM(1,)", "RETURN NOT COUNT(*)",
		"RETURN 1 ORDER", "RETURN 1 ORDER BY", "RETURN 1 ORDER 1", "RETURN 1 BY 1", "RETURN 1 ORDER BY a", "RETURN 1 ORDER BY ,", "RETURN 1 ORDER BY 1,", "RETURN 1 ORDER BY ,1", "RETURN 1 ORDER BY 1 1", "RETURN 1 ORDER BY DESC", "RETURN 1 ORDER BY DESC 1", "RETURN 1 ORDER BY 1 DESC DESC", "RETURN 1 ORDER BY -1", "RETURN 1 ORDER BY (1)", "RETURN 1 ORDER BY '1'", "RETURN 1 ORDER BY 1 + 1", "RETURN 1 ORDER BY 1 ORDER BY 1", "RETURN 1 ORDER BY 0", "RETURN 1 ORDER BY 2", "RETURN 1 DESC", "ORDER BY 1 RETURN 1", "RETURN ORDER BY 1", "RETURN 1, ORDER BY 1", "RETURN 1 ORDER BY BY 1",
		"RETURN 1 SKIP", "RETURN 1 SKIP a", "RETURN 1 SKIP -1", "RETURN 1 SKIP '1'", "RETURN 1 SKIP 1 1", "RETURN 1 SKIP 1 SKIP 1", "RETURN 1 SKIP 1 + 1", "RETURN 1 SKIP (1)", "RETURN 1 SKIP 1 ORDER BY 1", "RETURN 1 LIMIT", "RETURN 1 LIMIT a", "RETURN 1 LIMIT -1", "RETURN 1 LIMIT 1 LIMIT 1", "RETURN 1 LIMIT 1 SKIP 1", "RETURN 1 LIMIT 1 ORDER BY 1", "RETURN 1 LIMIT SKIP 1", "RETURN 1 SKIP LIMIT 1", "RETURN 1 LIMIT NULL", "SKIP 1 RETURN 1", "RETURN LIMIT 1", "RETURN 1 LIMIT 1,", "RETURN 1, LIMIT 1",
		"CREATE", "CREATE a", "CREATE a:P", "CREATE @", "CREATE @1", "CREATE @a @b", "CREATE @a b", "CREATE @a:", "CREATE @a::P", "CREATE @a:1", "CREATE @a:P,Q", "CREATE (a)", "CREATE (@a)", "CREATE @a, @b", "CREATE @a:P-:T->@b", "CREATE @SET", "CREATE @a:SET", "CREATE 'a'", "CREATE NULL", "CREATE @a.b", "CREATE @@a", "CREATE CREATE @a",
		"CREATE a-", "CREATE a-:", "CREATE a-:T", "CREATE a-:T->", "CREATE a-T->b", "CREATE a:T->b", "CREATE a->b", "CREATE a-:T-b", "CREATE a-:T->b:P", "CREATE a-:T->@", "CREATE a-:T->1", "CREATE a-:T->(b)", "CREATE a-[:T]->b", "CREATE a-:T:S->b", "CREATE a-:1->b", "CREATE a-:SET->b", "CREATE a<-:T-b", "CREATE a-:T->b-:T->c", "CREATE -:T->b", "CREATE a b-:T->c", "CREATE 1-:T->b", "CREATE @a-:T", "CREATE @a-:T->", "CREATE @a->@b", "CREATE @a-:->@b", "CREATE @a--:T->@b", "CREATE a-:T-->b", "CREATE a-:T->@b@c", "CREATE @a-:T->@b:P", "CREATE a@k-:T->b",
		"SET", "SET a", "SET a.", "SET a.b", "SET a.b =", "SET a.b 1", "SET a = 1", "SET a.b == 1", "SET a.b.c = 1", "SET a.1 = 1", "SET 1.b = 1", "SET @a.b = 1", "SET @a:P", "SET a.b = 1, a.c = 2", "SET a.b = 1 a.c = 2", "SET .b = 1", "SET a..b = 1", "SET a.b <> 1", "SET a.b = COUNT(*)", "SET a.b = SUM(a)", "SET a.SET = 1", "SET SET.a = 1", "SET a.b = 1 = 2 = 3", "SET a.b = ", "SET (a).b = 1", "SET a:", "SET a:1", "SET a:P:Q", "SET a:P = 1", "SET a:P, b:Q", "SET :P", "SET a:SET", "SET a:'P'", "SET a@k = 1",
		"REMOVE", "REMOVE a", "REMOVE a.", "REMOVE a:", "REMOVE a.1", "REMOVE a.b = 1", "REMOVE a.b.c", "REMOVE a:P:Q", "REMOVE a.b, a.c", "REMOVE @a.b", "REMOVE @a:P", "REMOVE 1.b", "REMOVE .b", "REMOVE :P", "REMOVE a b", "REMOVE a.NULL", "REMOVE a:NULL", "REMOVE REMOVE a.b",
		"DELETE", "DELETE a b", "DELETE a, b", "DELETE @a", "DELETE 1", "DELETE a.b", "DELETE a:P", "DELETE (a)", "DELETE NULL", "DELETE DELETE a", "DELETE a-:T->b",
		"CREATE @a RETURN 1", "RETURN 1 CREATE @a", "SET a.b = 1 RETURN 1", "DELETE a RETURN COUNT(*)", "RETURN 1 DELETE a", "CREATE @a MATCH (b)", "CREATE @a MATCH (b) RETURN 1", "CREATE @a MATCH (b) DELETE b", "SET a.b = 1 WHERE a", "CREATE @a SKIP 1", "CREATE @a LIMIT 1", "CREATE @a ORDER BY 1", "DELETE a DISTINCT", "CREATE @a)", "MATCH (a) MATCH (b)", "MATCH (a) WHERE a SKIP 1", "AND", "NULL", "MATCH (a) 1", "CREATE @a OPTIONAL MATCH (b) RETURN 1",
	}
}

func TestSyntaxP20_1(t *testing.T) {
	for _, s := range mustStand() {
		l, err := lex.Tokens(s)
		if err != api.OK {
			// Such as has a thing that is no token.
			if q, err := parse.Text(s); err != api.ErrSyntax || !nothing(q) {
				t.Errorf("Text(%s) is %+v, %d", s, q, err)
			}
			continue
		}
		refuses(t, l, api.ErrSyntax)
		if q, err := parse.Text(s); err != api.ErrSyntax || !nothing(q) {
			t.Errorf("Text(%s) is %+v, %d", s, q, err)
		}
	}
	refuses(t, nil, api.ErrSyntax)
	refuses(t, []api.Token{}, api.ErrSyntax)
}

// mayNot are tokens that may not be.
func mayNot() []api.Token {
	return []api.Token{
		{}, {Text: "a"}, {Kind: -1, Text: "a"}, {Kind: 6, Text: "a"}, {Kind: math.MaxInt}, {Kind: math.MinInt, Num: 1},
		named(""), named("1"), named("MATCH"), named("RETURN"), named(strings.Repeat("n", api.MaxName+1)), {Kind: api.TokName, Num: 1, Text: "a"},
		{Kind: api.TokWord, Text: "a"}, {Kind: api.TokWord, Num: 1, Text: "MATCH"}, {Kind: api.TokWord, Num: 1, Text: "RETURN"}, {Kind: api.TokWord, Text: "("}, {Kind: api.TokSign, Text: "RETURN"},
		{Kind: api.TokNum, Num: -1}, {Kind: api.TokNum, Num: api.MaxNum + 1}, {Kind: api.TokNum, Num: math.MinInt}, {Kind: api.TokNum, Num: 1, Text: "1"},
		{Kind: api.TokText, Text: "\n"}, {Kind: api.TokText, Num: 1, Text: "a"},
		{Kind: api.TokSign, Text: "!"}, {Kind: api.TokSign, Num: 1, Text: "("}, {Kind: api.TokSign, Num: 1, Text: ")"}, {Kind: api.TokSign, Num: 1, Text: ","},
	}
}

// wholes are queries in which all that the grammar has stands.
func wholes() []string {
	return []string{
		"MATCH (n@k:P:Q)-[r:T]->()<-[:S*1..3]-(m) WHERE n.a = 1 OPTIONAL MATCH (o) RETURN DISTINCT COUNT(*), SUM(n.a), m ORDER BY 1 DESC, 2 SKIP 3 LIMIT 4",
		"MATCH (a) CREATE @k:P:Q CREATE a-:T->@k CREATE @k-:T->a SET a.b = a.c + 1 SET a:P REMOVE a.b REMOVE a:P DELETE a",
	}
}

// TestTokensThatMayNotBeP20_1: one that may not be is no part of a query, wherever it stands.
func TestTokensThatMayNotBeP20_1(t *testing.T) {
	for _, s := range wholes() {
		l := toks(s)
		for i := range l {
			for _, x := range mayNot() {
				near := slices.Clone(l)
				near[i] = x
				refuses(t, near, api.ErrSyntax)
				refuses(t, slices.Insert(slices.Clone(l), i, x), api.ErrSyntax)
			}
			twin := slices.Clone(l)
			twin[i].Num += 1 << 41
			refuses(t, twin, api.ErrSyntax)
		}
		refuses(t, append(slices.Clone(l), api.Token{}), api.ErrSyntax)
	}
}

// TestCutP20_1: each token of a query must stand there, but for what may be left out.
func TestCutP20_1(t *testing.T) {
	for _, s := range wholes() {
		l := toks(s)
		for i := range l {
			asked(t, l[:i])
			asked(t, l[i:])
			asked(t, slices.Delete(slices.Clone(l), i, i+1))
			for j := range l {
				near := slices.Clone(l)
				near[i], near[j] = l[j], l[i]
				asked(t, near)
				near = slices.Clone(l)
				near[i] = l[j]
				asked(t, near)
				asked(t, slices.Insert(slices.Clone(l), i, l[j]))
			}
		}
	}
}

func TestTextP20_1(t *testing.T) {
	long := func(n int) string { return "RETURN a" + strings.Repeat(" ", n-8) }
	want := returns(exprs(variable("a")), api.Item{})
	if q, err := parse.Text(long(api.MaxQuery)); err != api.OK || !same(q, want) {
		t.Errorf("Text of %d bytes is %+v, %d", api.MaxQuery, q, err)
	}
	for s, want := range map[string]api.Errno{
		long(api.MaxQuery + 1):              api.ErrLong,
		strings.Repeat("(", api.MaxQuery+1): api.ErrLong,
		strings.Repeat("!", api.MaxQuery+1): api.ErrLong,
		"RETURN !":                          api.ErrSyntax,
		"RETURN 01":                         api.ErrSyntax,
		"RETURN 'a":                         api.ErrSyntax,
		"RETURN \x00":                       api.ErrSyntax,
		"RETURN 1\n":                        api.ErrSyntax,
		"RETURN é":                          api.ErrSyntax,
		"RETURN nnnnnnnnnnnnnnnnn":          api.ErrSyntax,
		"RETURN " + strings.Repeat("(", 65) + "a !": api.ErrSyntax,
		"RETURN " + strings.Repeat("(", 65) + "a":   api.ErrDeep,
		"":     api.ErrSyntax,
		"   ":  api.ErrSyntax,
		"\xff": api.ErrSyntax,
	} {
		if q, err := parse.Text(s); err != want || !nothing(q) {
			t.Errorf("Text(%.80s) is %+v, %d, not %d", s, q, err, want)
		}
	}
}

func TestDeepP20_1(t *testing.T) {
	in := func(n int) string { return strings.Repeat("( ", n) + "a" + strings.Repeat(" )", n) }
	a := exprs(variable("a"))
	set := api.Mut{Kind: api.MutSet, A: api.Ref{Var: "a"}, Name: "b"}
	parses(t, "RETURN "+in(64), returns(a, api.Item{}))
	// An item's own brackets count for none.
	parses(t, "RETURN MAX "+in(65), returns(a, api.Item{Kind: api.ItMax}))
	parses(t, "SET a.b = "+in(64), muts(a, set))
	q := result(api.Match{Spots: spots(api.Spot{}), Where: 0})
	q.Exprs, q.Items = exprs(variable("a"), integer(1)), items(api.Item{Expr: 1})
	parses(t, "MATCH () WHERE "+in(64)+" RETURN 1", q)
	for _, s := range []string{
		"RETURN " + in(65), "RETURN 1, " + in(65), "RETURN COUNT " + in(66), "RETURN MIN(1), SUM ( " + in(65), "RETURN DISTINCT " + in(65), "SET a.b = " + in(65), "DELETE a SET a.b = " + in(65), "MATCH (a) WHERE " + in(65) + " RETURN 1", "MATCH (a) WHERE " + in(65),
		// What stands behind isn't asked any more.
		"RETURN " + in(65) + " RETURN", "SET a.b = " + in(65) + " MATCH", "RETURN " + strings.Repeat("NOT ", 65), "MATCH (a) WHERE " + in(65) + " WHERE",
	} {
		refuses(t, toks(s), api.ErrDeep)
	}
	for _, s := range []string{
		// What stands ahead is asked first.
		"RETURN RETURN " + in(65), "MATCH (a) - WHERE " + in(65), "RETURN 1 ORDER BY " + in(65), "RETURN 1 SKIP " + in(65), "CREATE @a RETURN " + in(65), "MATCH (a:) WHERE " + in(65), "SET a:b = " + in(65), "SET a.b " + in(65), "COUNT ( " + in(65), "RETURN COUNT ( * " + in(65), "MATCH ()-[*2..1]->() WHERE " + in(65), "MATCH ()-[r*1..2]->() WHERE " + in(65), "RETURN 1 = 2 = " + in(65), in(65), "WHERE " + in(65), "RETURN , " + in(65), "RETURN 1 , , " + in(65), "RETURN DISTINCT DISTINCT " + in(65), "RETURN COUNT " + in(65) + ")",
		"CREATE " + in(65), "MATCH " + in(65), "SET " + in(65), "DELETE " + in(65), "RETURN 1 LIMIT 1 , " + in(65), "MATCH (a) WHERE a , " + in(65),
	} {
		refuses(t, toks(s), api.ErrSyntax)
	}
}

// TestTooManyP20_1: a query of which an expression has more tokens than are told has none.
func TestTooManyP20_1(t *testing.T) {
	sum := func(n int) string { return strings.Repeat("a + ", n-1) + "a" }
	// Of an expression of n parts 2n - 1 are tokens; 4096 are told, and a NOT is one.
	for _, c := range []struct {
		s  string
		ok bool
	}{
		{"RETURN NOT " + sum(2048), true}, {"RETURN " + sum(2048), true}, {"RETURN " + sum(2049), false}, {"RETURN NOT NOT " + sum(2048), false},
		{"RETURN 1, " + sum(2049) + ", 2", false}, {"RETURN COUNT(" + sum(2049) + ")", false}, {"SET a.b = " + sum(2049) + " DELETE a", false}, {"MATCH (a) WHERE " + sum(2049) + " RETURN 1", false}, {"RETURN NOT " + sum(2048) + ", NOT " + sum(2048), true},
	} {
		l := toks(c.s)
		asked(t, l)
		q, err := parse.Query(l)
		if told, ok := parse.Tokens(q); err != api.OK || ok != c.ok || !c.ok && len(told) > 0 || c.ok && len(told) != len(l) {
			t.Errorf("Tokens(%.60s) tells %d, %v", c.s, len(told), ok)
		}
		if s, ok := parse.String(q); ok != c.ok || !c.ok && s != "" {
			t.Errorf("String(%.60s) tells %d bytes, %v", c.s, len(s), ok)
		}
	}
}

func TestStringP20_1(t *testing.T) {
	for s, want := range map[string]string{
		wholes()[0]:          "MATCH ( n @ k : P : Q ) - [ r : T ] -> ( ) <- [ : S * 1 .. 3 ] - ( m ) WHERE n . a = 1 OPTIONAL MATCH ( o ) RETURN DISTINCT COUNT ( * ) , SUM ( n . a ) , m ORDER BY 1 DESC , 2 SKIP 3 LIMIT 4",
		wholes()[1]:          "MATCH ( a ) CREATE @ k : P : Q CREATE a - : T -> @ k CREATE @ k - : T -> a SET a . b = a . c + 1 SET a : P REMOVE a . b REMOVE a : P DELETE a",
		"RETURN ((1)+(2))*3": "RETURN ( 1 + 2 ) * 3",
		"RETURN MIN((a)), (NOT (a)), (((-1))) LIMIT 0": "RETURN MIN ( a ) , NOT a , - 1 LIMIT 0",
		`RETURN 'it\'s', '', @a, TRUE`:                 `RETURN 'it\'s' , '' , @ a , TRUE`,
		"MATCH()WHERE((a))SET a.b=(1)":                 "MATCH ( ) WHERE a SET a . b = 1",
	} {
		q, err := parse.Text(s)
		if err != api.OK {
			t.Errorf("Text(%s) tells %d", s, err)
		}
		if got, ok := parse.String(q); got != want || !ok {
			t.Errorf("String of %s is %s, %v, not %s", s, got, ok, want)
		}
	}
	// A text may be longer than what is read, as all tokens have a blank between.
	q, err := parse.Text("RETURN 1" + strings.Repeat(",1", 996))
	if s, ok := parse.String(q); err != api.OK || !ok || len(s) <= api.MaxQuery {
		t.Errorf("the text of a long query has %d bytes, %v", len(s), ok)
	}
}

// TestRightP20_1 turns one thing of queries that may be: some may be yet, some may not.
func TestRightP20_1(t *testing.T) {
	const read, write = 0, 1
	long := strings.Repeat("n", api.MaxName)
	for _, c := range []struct {
		name string
		of   int
		turn func(q *api.Query)
		want api.Errno
	}{
		{"nothing", read, func(q *api.Query) {}, api.OK},
		{"nothing", write, func(q *api.Query) {}, api.OK},
		{"an expression behind", read, func(q *api.Query) { q.Exprs = append(q.Exprs, variable("z")) }, api.OK},
		{"an expression behind that may not be", read, func(q *api.Query) { q.Exprs = append(q.Exprs, two(api.ExAdd, 0, len(q.Exprs))) }, api.ErrArg},
		{"an expression that may not be", write, func(q *api.Query) { q.Exprs[0].Prop = "" }, api.ErrArg},
		{"no matches", read, func(q *api.Query) { q.Matches = nil }, api.OK},
		{"no matches", write, func(q *api.Query) { q.Matches = nil }, api.OK},
		{"no items", read, func(q *api.Query) { q.Items = nil }, api.ErrArg},
		{"no items, no sorts and so on", read, func(q *api.Query) { *q = api.Query{Exprs: q.Exprs, Matches: q.Matches, Skip: -1, Limit: -1} }, api.ErrArg},
		{"no mutations", write, func(q *api.Query) { q.Muts = nil }, api.ErrArg},
		{"items, too", write, func(q *api.Query) { q.Items = items(api.Item{}) }, api.ErrArg},
		{"a mutation, too", read, func(q *api.Query) { q.Muts = []api.Mut{{Kind: api.MutNode, A: api.Ref{Key: "k"}, Expr: -1}} }, api.ErrArg},
		{"DISTINCT", write, func(q *api.Query) { q.Distinct = true }, api.ErrArg},
		{"a sort", write, func(q *api.Query) { q.Sorts = []api.Sort{{Column: 1}} }, api.ErrArg},
		{"Skip", write, func(q *api.Query) { q.Skip = 0 }, api.ErrArg},
		{"Limit", write, func(q *api.Query) { q.Limit = 0 }, api.ErrArg},
		{"Skip below", write, func(q *api.Query) { q.Skip = -2 }, api.ErrArg},
		{"no Skip", read, func(q *api.Query) { q.Skip = -1 }, api.OK},
		{"Skip below", read, func(q *api.Query) { q.Skip = -2 }, api.ErrArg},
		{"Skip most", read, func(q *api.Query) { q.Skip = api.MaxNum }, api.OK},
		{"Skip above", read, func(q *api.Query) { q.Skip = api.MaxNum + 1 }, api.ErrArg},
		{"Limit most", read, func(q *api.Query) { q.Limit = api.MaxNum }, api.OK},
		{"Limit above", read, func(q *api.Query) { q.Limit = api.MaxNum + 1 }, api.ErrArg},
		{"Limit below", read, func(q *api.Query) { q.Limit = math.MinInt }, api.ErrArg},
		{"no spots", read, func(q *api.Query) { q.Matches[1].Spots = nil }, api.ErrArg},
		{"a spot too few", read, func(q *api.Query) { q.Matches[0].Spots = q.Matches[0].Spots[:2] }, api.ErrArg},
		{"a spot too many", read, func(q *api.Query) { q.Matches[1].Spots = make([]api.Spot, 2) }, api.ErrArg},
		{"a rel too many", read, func(q *api.Query) { q.Matches[1].Rels = make([]api.Rel, 1) }, api.ErrArg},
		{"no Where", read, func(q *api.Query) { q.Matches[0].Where = -1 }, api.OK},
		{"another Where", read, func(q *api.Query) { q.Matches[1].Where = len(q.Exprs) - 1 }, api.OK},
		{"a Where beyond", read, func(q *api.Query) { q.Matches[1].Where = len(q.Exprs) }, api.ErrArg},
		{"a Where below", read, func(q *api.Query) { q.Matches[0].Where = -2 }, api.ErrArg},
		{"a spot's Var", read, func(q *api.Query) { q.Matches[0].Spots[2].Var = long }, api.OK},
		{"a spot's Var too long", read, func(q *api.Query) { q.Matches[0].Spots[2].Var = long + "n" }, api.ErrArg},
		{"a spot's Var a word", read, func(q *api.Query) { q.Matches[0].Spots[0].Var = "MANY" }, api.ErrArg},
		{"a spot's Key no name", read, func(q *api.Query) { q.Matches[0].Spots[0].Key = "1" }, api.ErrArg},
		{"a spot's Key a word", read, func(q *api.Query) { q.Matches[0].Spots[1].Key = "IS" }, api.ErrArg},
		{"a label that is nothing", read, func(q *api.Query) { q.Matches[0].Spots[0].Labels[1] = "" }, api.ErrArg},
		{"a label that is a word", read, func(q *api.Query) { q.Matches[0].Spots[0].Labels[0] = "SET" }, api.ErrArg},
		{"a rel's Type no name", read, func(q *api.Query) { q.Matches[0].Rels[1].Type = "a b" }, api.ErrArg},
		{"a rel's Type nothing", read, func(q *api.Query) { q.Matches[0].Rels[1].Type = "" }, api.OK},
		{"a rel's Var a word", read, func(q *api.Query) { q.Matches[0].Rels[0].Var = "BY" }, api.ErrArg},
		{"a rel's Var beside hops", read, func(q *api.Query) { q.Matches[0].Rels[1].Var = "r" }, api.ErrArg},
		{"hops beside a rel's Var", read, func(q *api.Query) { q.Matches[0].Rels[0].Low, q.Matches[0].Rels[0].High = 1, 1 }, api.ErrArg},
		{"no hops", read, func(q *api.Query) { q.Matches[0].Rels[1].Low, q.Matches[0].Rels[1].High = 0, 0 }, api.OK},
		{"most hops", read, func(q *api.Query) { q.Matches[0].Rels[1].Low, q.Matches[0].Rels[1].High = 8, 8 }, api.OK},
		{"Low above High", read, func(q *api.Query) { q.Matches[0].Rels[1].Low = 4 }, api.ErrArg},
		{"Low 0", read, func(q *api.Query) { q.Matches[0].Rels[1].Low = 0 }, api.ErrArg},
		{"High 0", read, func(q *api.Query) { q.Matches[0].Rels[1].High = 0 }, api.ErrArg},
		{"High above MaxHops", read, func(q *api.Query) { q.Matches[0].Rels[1].High = 9 }, api.ErrArg},
		{"hops below", read, func(q *api.Query) { q.Matches[0].Rels[1].Low, q.Matches[0].Rels[1].High = -2, -1 }, api.ErrArg},
		{"a kind of items below", read, func(q *api.Query) { q.Items[2].Kind = -1 }, api.ErrArg},
		{"a kind of items above", read, func(q *api.Query) { q.Items[2].Kind = api.ItMax + 1 }, api.ErrArg},
		{"another kind of items", read, func(q *api.Query) { q.Items[2].Kind = api.ItMax }, api.OK},
		{"an item's Expr of COUNT(*)", read, func(q *api.Query) { q.Items[0].Expr = 0 }, api.ErrArg},
		{"an item's Expr below", read, func(q *api.Query) { q.Items[1].Expr = -1 }, api.ErrArg},
		{"an item's Expr beyond", read, func(q *api.Query) { q.Items[2].Expr = len(q.Exprs) }, api.ErrArg},
		{"COUNT(*) of an expression", read, func(q *api.Query) { q.Items[2].Kind = api.ItRows }, api.ErrArg},
		{"items in any order", read, func(q *api.Query) { q.Items[1].Expr, q.Items[2].Expr = q.Items[2].Expr, 0 }, api.OK},
		{"a sort's Column", read, func(q *api.Query) { q.Sorts[0].Column = 3 }, api.OK},
		{"a sort's Column 0", read, func(q *api.Query) { q.Sorts[1].Column = 0 }, api.ErrArg},
		{"a sort's Column beyond", read, func(q *api.Query) { q.Sorts[1].Column = 4 }, api.ErrArg},
		{"no sorts", read, func(q *api.Query) { q.Sorts = nil }, api.OK},
		{"a kind of mutations 0", write, func(q *api.Query) { q.Muts[7].Kind = 0 }, api.ErrArg},
		{"a kind of mutations above", write, func(q *api.Query) { q.Muts[7].Kind = 8 }, api.ErrArg},
		{"CREATE of a variable", write, func(q *api.Query) { q.Muts[0].A = api.Ref{Var: "a"} }, api.ErrArg},
		{"CREATE of both", write, func(q *api.Query) { q.Muts[0].A.Var = "a" }, api.ErrArg},
		{"CREATE of nothing", write, func(q *api.Query) { q.Muts[0].A = api.Ref{} }, api.ErrArg},
		{"CREATE to a node", write, func(q *api.Query) { q.Muts[0].B.Key = "k" }, api.ErrArg},
		{"CREATE of no label", write, func(q *api.Query) { q.Muts[0].Labels = nil }, api.OK},
		{"CREATE of a label that is a word", write, func(q *api.Query) { q.Muts[0].Labels[1] = "OR" }, api.ErrArg},
		{"CREATE with a Name", write, func(q *api.Query) { q.Muts[0].Name = "T" }, api.ErrArg},
		{"CREATE with an Expr", write, func(q *api.Query) { q.Muts[0].Expr = 0 }, api.ErrArg},
		{"an edge from both", write, func(q *api.Query) { q.Muts[1].A.Key = "k" }, api.ErrArg},
		{"an edge to both", write, func(q *api.Query) { q.Muts[1].B.Var = "a" }, api.ErrArg},
		{"an edge to nothing", write, func(q *api.Query) { q.Muts[2].B = api.Ref{} }, api.ErrArg},
		{"an edge from a word", write, func(q *api.Query) { q.Muts[1].A.Var = "AND" }, api.ErrArg},
		{"an edge without a Name", write, func(q *api.Query) { q.Muts[1].Name = "" }, api.ErrArg},
		{"an edge with labels", write, func(q *api.Query) { q.Muts[1].Labels = []string{"P"} }, api.ErrArg},
		{"an edge with an Expr", write, func(q *api.Query) { q.Muts[1].Expr = 0 }, api.ErrArg},
		{"SET without an Expr", write, func(q *api.Query) { q.Muts[3].Expr = -1 }, api.ErrArg},
		{"SET with an Expr beyond", write, func(q *api.Query) { q.Muts[3].Expr = len(q.Exprs) }, api.ErrArg},
		{"SET of another Expr", write, func(q *api.Query) { q.Muts[3].Expr = 0 }, api.OK},
		{"SET without a Name", write, func(q *api.Query) { q.Muts[3].Name = "" }, api.ErrArg},
		{"SET of a key", write, func(q *api.Query) { q.Muts[3].A = api.Ref{Key: "k"} }, api.ErrArg},
		{"SET of both", write, func(q *api.Query) { q.Muts[3].A.Key = "k" }, api.ErrArg},
		{"SET with a B", write, func(q *api.Query) { q.Muts[3].B.Var = "a" }, api.ErrArg},
		{"SET with labels", write, func(q *api.Query) { q.Muts[3].Labels = []string{"P"} }, api.ErrArg},
		{"SET of a label with an Expr", write, func(q *api.Query) { q.Muts[4].Expr = 0 }, api.ErrArg},
		{"SET of a label in Labels", write, func(q *api.Query) { q.Muts[4].Name, q.Muts[4].Labels = "", []string{"P"} }, api.ErrArg},
		{"REMOVE with an Expr", write, func(q *api.Query) { q.Muts[5].Expr = 0 }, api.ErrArg},
		{"REMOVE of no property", write, func(q *api.Query) { q.Muts[5].Name = "" }, api.ErrArg},
		{"REMOVE of a label that is a word", write, func(q *api.Query) { q.Muts[6].Name = "MIN" }, api.ErrArg},
		{"DELETE with a Name", write, func(q *api.Query) { q.Muts[7].Name = "x" }, api.ErrArg},
		{"DELETE with an Expr", write, func(q *api.Query) { q.Muts[7].Expr = 1 }, api.ErrArg},
		{"DELETE of a key", write, func(q *api.Query) { q.Muts[7].A = api.Ref{Key: "k"} }, api.ErrArg},
		{"DELETE of nothing", write, func(q *api.Query) { q.Muts[7].A = api.Ref{} }, api.ErrArg},
		{"DELETE with labels", write, func(q *api.Query) { q.Muts[7].Labels = []string{"P"} }, api.ErrArg},
		{"DELETE, 0 in place of no Expr", write, func(q *api.Query) { q.Muts[7].Expr = 0 }, api.ErrArg},
	} {
		q, _ := parse.Text(wholes()[c.of])
		c.turn(&q)
		if err := parse.Right(q); err != c.want {
			t.Errorf("Right with %s is %d, not %d: %+v", c.name, err, c.want, q)
		}
		if l, ok := parse.Tokens(q); ok != (c.want == api.OK) || !ok && len(l) > 0 {
			t.Errorf("Tokens with %s tells %s, %v", c.name, text(l), ok)
		}
		if s, ok := parse.String(q); ok != (c.want == api.OK) || !ok && s != "" {
			t.Errorf("String with %s tells %s, %v", c.name, s, ok)
		}
	}
	if parse.Right(api.Query{}) != api.ErrArg || parse.Right(api.Query{Skip: -1, Limit: -1}) != api.ErrArg {
		t.Error("a query of nothing may be")
	}
}

// TestMemoryP20_1: what is told shares no memory with what was handed in, nor do two of its lists with each other.
func TestMemoryP20_1(t *testing.T) {
	l := toks("MATCH (a:P:Q)-[r]->(b:R) MATCH (c) WHERE a.x + b.y = 1 RETURN a, b, c ORDER BY 1, 2")
	q, _ := parse.Query(l)
	want, _ := parse.Query(slices.Clone(l))
	told, _ := parse.Tokens(q)
	again := slices.Clone(told)
	for i := range l {
		l[i] = api.Token{}
	}
	if !same(q, want) || !slices.Equal(told, again) {
		t.Error("a query shares its tokens' memory")
	}
	for i := range q.Exprs {
		q.Exprs[i] = api.Expr{}
	}
	q.Matches[0].Spots[0].Labels[0] = "X"
	_ = append(q.Matches[0].Spots[0].Labels, "Y")
	_ = append(q.Matches[0].Spots, api.Spot{Var: "Y"})
	_ = append(q.Matches[0].Rels, api.Rel{Var: "Y"})
	_ = append(q.Items, api.Item{Kind: 9})
	_ = append(q.Matches, api.Match{})
	if !slices.Equal(told, again) || q.Matches[0].Spots[1].Labels[0] != "R" || q.Matches[1].Spots[0].Var != "c" || len(q.Matches) != 2 || q.Items[0] != (api.Item{Expr: want.Items[0].Expr}) {
		t.Error("lists of an answer share memory")
	}
}
