package check_test

import (
	"reflect"
	"slices"
	"testing"

	"hedgerow/api"
	"hedgerow/check"
	"hedgerow/expr"
	"hedgerow/parse"
)

// The chapter's words, written otherwise than the program: all that a query says of variables is laid into one row, in order, and what holds of each saying is asked of those ahead of it.

// saying is what a query says of a variable in one place.
type saying struct {
	name  string
	binds bool // it binds it; else it asks for it
	kind  int  // as what; 0: as either
	match int
}

// spoken are the variables of an expression, as its tokens name them.
func spoken(row []api.Expr, place int) []string {
	if place == -1 {
		return nil
	}
	l, ok := expr.Tokens(row, place)
	if !ok {
		panic("an expression without tokens")
	}
	var names []string
	for i, t := range l {
		behind := i > 0 && l[i-1].Kind == api.TokSign && (l[i-1].Text == "@" || l[i-1].Text == ".")
		if t.Kind == api.TokName && !behind {
			names = append(names, t.Text)
		}
	}
	return names
}

// sayings are all of a query that may be.
func sayings(q api.Query) []saying {
	var l []saying
	asks := func(kind int, names ...string) {
		for _, name := range names {
			if name != "" {
				l = append(l, saying{name: name, kind: kind})
			}
		}
	}
	for at, m := range q.Matches {
		for i := range len(m.Spots) + len(m.Rels) {
			s := saying{binds: true, match: at}
			if i%2 == 0 {
				s.name, s.kind = m.Spots[i/2].Var, api.Node
			} else {
				s.name, s.kind = m.Rels[i/2].Var, api.Edge
			}
			if s.name != "" {
				l = append(l, s)
			}
		}
		asks(0, spoken(q.Exprs, m.Where)...)
	}
	for _, i := range q.Items {
		asks(0, spoken(q.Exprs, i.Expr)...)
	}
	for _, m := range q.Muts {
		asks(map[int]int{2: api.Node, 4: api.Node, 6: api.Node}[m.Kind], m.A.Var, m.B.Var)
		asks(0, spoken(q.Exprs, m.Expr)...)
	}
	return l
}

// fault is what is wrong with a saying behind those ahead of it.
func fault(ahead []saying, s saying) api.Errno {
	bound := slices.IndexFunc(ahead, func(o saying) bool { return o.binds && o.name == s.name })
	switch {
	case bound < 0 && !s.binds:
		return api.ErrName
	case bound >= 0 && s.kind != 0 && ahead[bound].kind != s.kind:
		return api.ErrType
	}
	return api.OK
}

// modelQuery is the first fault, and what is bound, if there is none.
func modelQuery(q api.Query) ([]check.Bound, api.Errno) {
	if parse.Right(q) != api.OK {
		return nil, api.ErrArg
	}
	l := sayings(q)
	var row []check.Bound
	for i, s := range l {
		if err := fault(l[:i], s); err != api.OK {
			return nil, err
		}
		if s.binds && !slices.ContainsFunc(l[:i], func(o saying) bool { return o.name == s.name }) {
			row = append(row, check.Bound{Var: s.name, Kind: s.kind, Match: s.match})
		}
	}
	return row, api.OK
}

// sound asks whether a query that may be is sound, by what it binds as what, whatever stands where.
func sound(q api.Query) bool {
	as := map[string]map[int]bool{}
	binds := func(name string, kind int) {
		if as[name] == nil {
			as[name] = map[int]bool{}
		}
		as[name][kind] = true
	}
	all := true
	uses := func(place int) {
		for _, name := range spoken(q.Exprs, place) {
			all = all && as[name] != nil
		}
	}
	for _, m := range q.Matches {
		for _, s := range m.Spots {
			binds(s.Var, api.Node)
		}
		for _, r := range m.Rels {
			binds(r.Var, api.Edge)
		}
		uses(m.Where)
	}
	delete(as, "")
	for _, kinds := range as {
		all = all && len(kinds) == 1
	}
	for _, i := range q.Items {
		uses(i.Expr)
	}
	for _, m := range q.Muts {
		for _, name := range []string{m.A.Var, m.B.Var} {
			either := m.Kind == api.MutSet || m.Kind == api.MutDrop || m.Kind == api.MutDelete
			all = all && (name == "" || as[name][api.Node] || either && as[name][api.Edge])
		}
		uses(m.Expr)
	}
	return all
}

// copied is a query that shares nothing with one.
func copied(q api.Query) api.Query {
	q.Exprs, q.Items, q.Sorts = slices.Clone(q.Exprs), slices.Clone(q.Items), slices.Clone(q.Sorts)
	q.Matches, q.Muts = slices.Clone(q.Matches), slices.Clone(q.Muts)
	for i := range q.Matches {
		m := &q.Matches[i]
		m.Spots, m.Rels = slices.Clone(m.Spots), slices.Clone(m.Rels)
		for i := range m.Spots {
			m.Spots[i].Labels = slices.Clone(m.Spots[i].Labels)
		}
	}
	for i := range q.Muts {
		q.Muts[i].Labels = slices.Clone(q.Muts[i].Labels)
	}
	return q
}

// asked holds all calls against the model, and answers what Query does.
func asked(t *testing.T, q api.Query) api.Errno {
	t.Helper()
	before := copied(q)
	row, want := modelQuery(q)
	if want != api.ErrArg && (want == api.OK) != sound(q) {
		t.Fatalf("the model tells %d of %+v", want, q)
	}
	if err := check.Query(q); err != want {
		t.Fatalf("Query(%+v) is %d, not %d", q, err, want)
	}
	if l := check.Vars(q); !slices.Equal(l, row) {
		t.Fatalf("Vars(%+v) are %+v, not %+v", q, l, row)
	}
	for match := -1; match <= len(q.Matches); match++ {
		var names []string
		for _, b := range row {
			if b.Match == match {
				names = append(names, b.Var)
			}
		}
		if l := check.New(q, match); !slices.Equal(l, names) {
			t.Fatalf("New(%+v, %d) are %q, not %q", q, match, l, names)
		}
	}
	if reads := want != api.ErrArg && len(q.Items) > 0; check.Reads(q) != reads {
		t.Fatalf("Reads(%+v) is %v", q, !reads)
	}
	if !reflect.DeepEqual(q, before) {
		t.Fatalf("%+v was changed to %+v", before, q)
	}
	return want
}
