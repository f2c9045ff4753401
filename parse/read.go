package parse

import (
	"hedgerow/api"
	"hedgerow/expr"
	"hedgerow/tokens"
)

// reader reads a query of tokens. Each part of the grammar is a call; behind a fault, what it tells means nothing.
type reader struct {
	tokens.Reader
	q api.Query // what is read of it
}

// behind is what a part is behind each such sign, as often as one stands there.
func behind[T any](r *reader, sign string, part func() T) []T {
	var l []T
	for r.Takes(sign) {
		l = append(l, part())
	}
	return l
}

// row is what a part is, and what it is again behind each ",".
func row[T any](r *reader, part func() T) []T {
	l := []T{part()}
	return append(l, behind(r, ",", part)...)
}

// maybe reads a name, if one stands there.
func (r *reader) maybe() string {
	if !r.Has(api.TokName) {
		return ""
	}
	return r.Name()
}

// marked reads a name behind a sign, if the sign stands there.
func (r *reader) marked(sign string) string {
	if !r.Takes(sign) {
		return ""
	}
	return r.Name()
}

// number reads a number of some bounds, which must stand there.
func (r *reader) number(least, most int) int {
	n := r.One(api.TokNum).Num
	if n < least || n > most {
		r.Fail(api.ErrSyntax)
	}
	return n
}

// count reads a number behind a word, if the word stands there.
func (r *reader) count(word string) int {
	if !r.Takes(word) {
		return none
	}
	return r.One(api.TokNum).Num
}

// expression reads an expression into the query's row, and tells its place.
func (r *reader) expression() int {
	if r.Err != api.OK {
		return none
	}
	exprs, place, size, err := expr.Parse(r.Left, r.q.Exprs)
	if err != api.OK {
		r.Fail(err)
		return none
	}
	r.q.Exprs, r.Left = exprs, r.Left[size:]
	return place
}

func (r *reader) query() {
	for r.match() {
	}
	if r.Takes("RETURN") {
		r.result()
		return
	}
	for r.mutation() {
	}
	if len(r.q.Muts) == 0 {
		r.Fail(api.ErrSyntax)
	}
}

// match reads one, if it stands there.
func (r *reader) match() bool {
	m := api.Match{Where: none}
	switch r.Any("OPTIONAL", "MATCH") {
	case "":
		return false
	case "OPTIONAL":
		m.Optional = true
		r.Needs("MATCH")
	}
	m.Spots, m.Rels = r.path()
	if r.Takes("WHERE") {
		m.Where = r.expression()
	}
	r.q.Matches = append(r.q.Matches, m)
	return true
}

func (r *reader) path() ([]api.Spot, []api.Rel) {
	spots := []api.Spot{r.spot()}
	var rels []api.Rel
	for sign := r.Any("-", "<-"); sign != ""; sign = r.Any("-", "<-") {
		rels = append(rels, r.rel(sign == "<-"))
		spots = append(spots, r.spot())
	}
	return spots, rels
}

func (r *reader) spot() api.Spot {
	r.Needs("(")
	s := api.Spot{Var: r.maybe()}
	s.Key = r.marked("@")
	s.Labels = behind(r, ":", r.Name)
	r.Needs(")")
	return s
}

// rel reads what stands behind the sign with which a rel begins.
func (r *reader) rel(back bool) api.Rel {
	_, end := ends(back)
	r.Needs("[")
	rel := api.Rel{Back: back, Var: r.maybe()}
	rel.Type = r.marked(":")
	if rel.Var == "" && r.Takes("*") {
		rel.Low = r.number(1, api.MaxHops)
		r.Needs("..")
		rel.High = r.number(rel.Low, api.MaxHops)
	}
	r.Needs("]", end)
	return rel
}

// result reads what stands behind a "RETURN".
func (r *reader) result() {
	r.q.Distinct = r.Takes("DISTINCT")
	r.q.Items = row(r, r.item)
	if r.Takes("ORDER") {
		r.Needs("BY")
		r.q.Sorts = row(r, r.sort)
	}
	r.q.Skip = r.count("SKIP")
	r.q.Limit = r.count("LIMIT")
}

func (r *reader) item() api.Item {
	for kind := api.ItCount; kind <= api.ItMax; kind++ {
		if r.Takes(overs[kind]) {
			return r.over(kind)
		}
	}
	return api.Item{Kind: api.ItPlain, Expr: r.expression()}
}

// over reads what stands behind the word of a kind of items.
func (r *reader) over(kind int) api.Item {
	r.Needs("(")
	if kind == api.ItCount && r.Takes("*") {
		r.Needs(")")
		return api.Item{Kind: api.ItRows, Expr: none}
	}
	i := api.Item{Kind: kind, Expr: r.expression()}
	r.Needs(")")
	return i
}

func (r *reader) sort() api.Sort {
	s := api.Sort{Column: r.number(1, len(r.q.Items))}
	s.Desc = r.Takes("DESC")
	return s
}

// mutation reads one, if it stands there.
func (r *reader) mutation() bool {
	var m api.Mut
	switch r.Any("CREATE", "SET", "REMOVE", "DELETE") {
	case "CREATE":
		m = r.create()
	case "SET":
		m = r.set()
	case "REMOVE":
		m = r.part(api.MutDrop, api.MutStrip)
	case "DELETE":
		m = api.Mut{Kind: api.MutDelete, A: api.Ref{Var: r.Name()}, Expr: none}
	default:
		return false
	}
	r.q.Muts = append(r.q.Muts, m)
	return true
}

// create reads what stands behind a "CREATE".
func (r *reader) create() api.Mut {
	a := r.ref()
	if r.Takes("-") {
		return r.edge(a)
	}
	if a.Key == "" {
		// A node that a variable has is there already.
		r.Fail(api.ErrSyntax)
	}
	return api.Mut{Kind: api.MutNode, A: a, Labels: behind(r, ":", r.Name), Expr: none}
}

// edge reads what stands behind the "-" of an edge that begins at a node.
func (r *reader) edge(a api.Ref) api.Mut {
	r.Needs(":")
	m := api.Mut{Kind: api.MutEdge, A: a, Name: r.Name(), Expr: none}
	r.Needs("->")
	m.B = r.ref()
	return m
}

// set reads what stands behind a "SET".
func (r *reader) set() api.Mut {
	m := r.part(api.MutSet, api.MutLabel)
	if m.Kind == api.MutSet {
		r.Needs("=")
		m.Expr = r.expression()
	}
	return m
}

// part reads a variable's property, or its label, of a mutation that is of one kind or the other.
func (r *reader) part(prop, label int) api.Mut {
	m := api.Mut{Kind: prop, A: api.Ref{Var: r.Name()}, Expr: none}
	if r.Takes(":") {
		m.Kind = label
	} else {
		r.Needs(".")
	}
	m.Name = r.Name()
	return m
}

// ref reads a variable, or a key.
func (r *reader) ref() api.Ref {
	if r.Takes("@") {
		return api.Ref{Key: r.Name()}
	}
	return api.Ref{Var: r.Name()}
}
