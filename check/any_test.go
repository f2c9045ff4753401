package check_test

import (
	"math"
	"math/rand"
	"reflect"
	"slices"
	"strings"
	"testing"

	"hedgerow/api"
	"hedgerow/check"
)

// shortRow are the expressions of the short queries.
func shortRow() []api.Expr {
	return []api.Expr{
		{Kind: api.ExVar, Var: "a"},
		{Kind: api.ExMany, Var: "b", Prop: "a"},
		{Kind: api.ExValue, Value: api.Value{Kind: api.Node, Text: "a"}},
		{Kind: api.ExEq, L: 2, R: 0},
		{Kind: api.ExNot, L: 1},
		{Kind: api.ExAnd, L: 3, R: 4},
		{Kind: api.ExProp, Var: "c", Prop: "b"}, // nothing uses it, but where it is told
	}
}

// shortMatches are those of one spot, or of two, of a, b and nothing.
func shortMatches(wheres ...int) []api.Match {
	var l []api.Match
	names := []string{"", "a", "b"}
	for _, where := range wheres {
		for _, first := range names {
			l = append(l, api.Match{Spots: []api.Spot{{Var: first}}, Where: where})
			for _, rel := range names {
				for _, last := range names {
					l = append(l, api.Match{Spots: []api.Spot{{Var: first}, {Var: last, Key: "a"}}, Rels: []api.Rel{{Var: rel, Type: "b"}}, Where: where})
				}
			}
		}
	}
	return l
}

// shortEnds are queries without matches.
func shortEnds() []api.Query {
	var l []api.Query
	items := func(items ...api.Item) {
		l = append(l, api.Query{Exprs: shortRow(), Items: items, Skip: -1, Limit: -1})
	}
	muts := func(muts ...api.Mut) {
		l = append(l, api.Query{Exprs: shortRow(), Muts: muts, Skip: -1, Limit: -1})
	}
	items(api.Item{Kind: api.ItRows, Expr: -1})
	for place := range 7 {
		items(api.Item{Expr: place})
		muts(api.Mut{Kind: api.MutSet, A: api.Ref{Var: "a"}, Name: "b", Expr: place})
	}
	items(api.Item{Kind: api.ItCount, Expr: 2}, api.Item{Kind: api.ItMax, Expr: 5})
	refs := []api.Ref{{Var: "a"}, {Var: "b"}, {Key: "a"}}
	for _, a := range refs {
		for _, b := range refs {
			muts(api.Mut{Kind: api.MutEdge, A: a, B: b, Name: "a", Expr: -1})
		}
	}
	muts(api.Mut{Kind: api.MutNode, A: api.Ref{Key: "b"}, Labels: []string{"a"}, Expr: -1})
	for kind := api.MutLabel; kind <= api.MutDelete; kind++ {
		m := api.Mut{Kind: kind, A: api.Ref{Var: "b"}, Name: "a", Expr: -1}
		if kind == api.MutDelete {
			m.Name = ""
		}
		muts(m)
		muts(api.Mut{Kind: api.MutDelete, A: api.Ref{Var: "a"}, Expr: -1}, m)
	}
	return l
}

func TestAllShortQueriesP21_1(t *testing.T) {
	told := map[api.Errno]int{}
	for _, q := range shortEnds() {
		told[asked(t, q)]++
		for _, m := range shortMatches(-1, 0, 1) {
			q.Matches = []api.Match{m}
			told[asked(t, q)]++
			for _, n := range shortMatches(-1, 0) {
				q.Matches = []api.Match{m, n}
				told[asked(t, q)]++
			}
		}
	}
	if told[api.ErrArg] > 0 || min(told[api.OK], told[api.ErrName], told[api.ErrType]) < 1000 {
		t.Errorf("of the queries only so many are sound, or not: %v", told)
	}
}

// grower grows queries that may be.
type grower struct{ *rand.Rand }

// some is one of some texts.
func (g grower) some(texts ...string) string { return texts[g.Intn(len(texts))] }

// node is a name, of a node for the most part.
func (g grower) node() string {
	if g.Intn(40) == 0 {
		return g.some("r", "s", "x")
	}
	return g.some("", "a", "b", "c", "n1")
}

// edge is a name, of an edge for the most part.
func (g grower) edge() string {
	if g.Intn(40) == 0 {
		return g.some("a", "b", "x")
	}
	return g.some("", "", "r", "s", "t")
}

// bound is a name that may be bound, or not.
func (g grower) bound() string { return g.some("a", "a", "b", "c", "n1", "r", "s") }

// row are expressions, each of any ahead of it.
func (g grower) row() []api.Expr {
	row := []api.Expr{{Kind: api.ExValue, Value: api.Value{Kind: api.Text, Text: "a"}}}
	for at := 1; at <= g.Intn(10); at++ {
		e := api.Expr{Kind: api.ExValue + g.Intn(api.ExMul)}
		switch {
		case e.Kind == api.ExValue:
			e.Value = api.Value{Kind: api.Node, Text: g.bound()}
		case e.Kind <= api.ExMany:
			e.Var = g.bound()
			if e.Kind > api.ExVar {
				e.Prop = g.bound()
			}
		default:
			e.L = g.Intn(at)
			if e.Kind >= api.ExOr {
				e.R = g.Intn(at)
			}
		}
		row = append(row, e)
	}
	return row
}

func (g grower) match(exprs int) api.Match {
	m := api.Match{Optional: g.Intn(2) == 0, Spots: []api.Spot{{Var: g.node()}}, Where: -1}
	for range g.Intn(3) {
		r := api.Rel{Var: g.edge(), Type: g.edge(), Back: g.Intn(2) == 0}
		if r.Var == "" && g.Intn(2) == 0 {
			r.Low, r.High = 1+g.Intn(3), 3+g.Intn(3)
		}
		m.Rels = append(m.Rels, r)
		m.Spots = append(m.Spots, api.Spot{Var: g.node(), Key: g.node(), Labels: []string{g.bound()}})
	}
	if g.Intn(4) == 0 {
		m.Where = g.Intn(exprs)
	}
	return m
}

func (g grower) mutation(exprs int) api.Mut {
	m := api.Mut{Kind: api.MutNode + g.Intn(api.MutDelete), A: api.Ref{Var: g.bound()}, Name: g.bound(), Expr: -1}
	switch m.Kind {
	case api.MutNode:
		m.A, m.Name, m.Labels = api.Ref{Key: g.bound()}, "", []string{g.bound(), g.bound()}
	case api.MutEdge:
		m.B.Var = g.bound()
		if g.Intn(2) == 0 {
			m.A, m.B = m.B, api.Ref{Key: g.bound()}
		}
	case api.MutSet:
		m.Expr = g.Intn(exprs)
	case api.MutDelete:
		m.Name = ""
	}
	return m
}

func (g grower) query() api.Query {
	q := api.Query{Exprs: g.row(), Skip: g.Intn(3) - 1, Limit: -1}
	for range g.Intn(5) {
		q.Matches = append(q.Matches, g.match(len(q.Exprs)))
	}
	if g.Intn(2) == 0 {
		q.Skip = -1
		for range 1 + g.Intn(3) {
			q.Muts = append(q.Muts, g.mutation(len(q.Exprs)))
		}
		return q
	}
	for range 1 + g.Intn(3) {
		it := api.Item{Kind: g.Intn(6), Expr: -1}
		if it.Kind != api.ItRows {
			it.Expr = g.Intn(len(q.Exprs))
		}
		q.Items = append(q.Items, it)
	}
	return q
}

func TestGrownQueriesP21_1(t *testing.T) {
	g := grower{rand.New(rand.NewSource(1))}
	told := map[api.Errno]int{}
	for range 40000 {
		told[asked(t, g.query())]++
	}
	if told[api.ErrArg] > 0 || min(told[api.OK], told[api.ErrName], told[api.ErrType]) < 1000 {
		t.Errorf("of the queries only so many are sound, or not: %v", told)
	}
}

// turn turns one thing of what is handed in, wherever it stands.
func (g grower) turn(v reflect.Value) {
	numbers := []int{0, 1, 2, 3, 4, 5, 6, 7, 8, 9, -1, -2, api.MaxNum, api.MaxNum + 1, math.MaxInt, math.MinInt}
	texts := []string{"", "a", "b", "r", "x", "MATCH", "NULL", "1", "a b", "é", "\xff", strings.Repeat("n", 16), strings.Repeat("n", 17)}
	switch v.Kind() {
	case reflect.Bool:
		v.SetBool(!v.Bool())
	case reflect.Int:
		v.SetInt(int64(numbers[g.Intn(len(numbers))]))
	case reflect.String:
		v.SetString(texts[g.Intn(len(texts))])
	case reflect.Struct:
		g.turn(v.Field(g.Intn(v.NumField())))
	case reflect.Slice:
		switch n := v.Len(); {
		case n == 0 || g.Intn(8) == 0:
			v.Set(reflect.Append(v, reflect.Zero(v.Type().Elem())))
		case g.Intn(8) == 0:
			v.SetLen(n - 1)
		default:
			g.turn(v.Index(g.Intn(n)))
		}
	}
}

func TestTurnedQueriesP21_1P5(t *testing.T) {
	g := grower{rand.New(rand.NewSource(2))}
	told := map[api.Errno]int{}
	for range 60000 {
		q := g.query()
		for range 1 + g.Intn(2) {
			g.turn(reflect.ValueOf(&q).Elem())
		}
		told[asked(t, q)]++
	}
	if min(told[api.OK], told[api.ErrArg], told[api.ErrName], told[api.ErrType]) < 500 {
		t.Errorf("of the queries only so many are sound, or not, or may be: %v", told)
	}
}

// TestGreatQueriesP21_1P5: of many expressions in each other, of many matches, and of many items.
func TestGreatQueriesP21_1P5(t *testing.T) {
	const many = 1 << 16
	deep := func(name string) []api.Expr {
		row := []api.Expr{{Kind: api.ExVar, Var: name}}
		for at := 1; at < many; at++ {
			row = append(row, api.Expr{Kind: api.ExAdd, L: at - 1, R: at - 1})
		}
		return row
	}
	q := api.Query{Exprs: deep("n1"), Items: []api.Item{{Expr: many - 1}}, Skip: -1, Limit: -1}
	if err := check.Query(q); err != api.ErrName {
		t.Errorf("a deep expression of what isn't bound: %d", err)
	}
	q.Matches = []api.Match{{Spots: []api.Spot{{Var: "n1"}}, Where: many - 1}}
	if err := check.Query(q); err != api.OK {
		t.Errorf("a deep expression: %d", err)
	}
	q.Exprs = q.Exprs[:1]
	q.Items = slices.Repeat([]api.Item{{}}, many)
	q.Matches[0].Where = 0
	q.Matches = slices.Repeat(q.Matches, many)
	if err, l := check.Query(q), check.New(q, 0); err != api.OK || !slices.Equal(l, []string{"n1"}) || len(check.New(q, 1)) > 0 {
		t.Errorf("many matches: %d, %q", err, l)
	}
	q.Items[many-1].Expr = 1
	if err := check.Query(q); err != api.ErrArg {
		t.Errorf("many items, of which the last one may not be: %d", err)
	}
}
