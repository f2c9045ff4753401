package parse

import (
	"hedgerow/api"
	"hedgerow/expr"
	"hedgerow/tokens"
)

// judge asks of a query's parts whether they may be.
type judge struct {
	exprs, items int // how many there are
}

// Right asks whether a query may be.
func Right(q api.Query) api.Errno {
	j := judge{exprs: len(q.Exprs), items: len(q.Items)}
	if expr.Right(q.Exprs) != api.OK || !all(q.Matches, j.match) || !j.result(q) && !j.mutations(q) {
		return api.ErrArg
	}
	return api.OK
}

// all asks whether each one of a row may be.
func all[T any](l []T, may func(T) bool) bool {
	for _, x := range l {
		if !may(x) {
			return false
		}
	}
	return true
}

// maybe asks whether each text is a name, or nothing.
func maybe(texts ...string) bool {
	return all(texts, func(s string) bool { return s == "" || tokens.IsName(s) })
}

// place asks whether it is one of an expression.
func (j judge) place(i int) bool { return i >= 0 && i < j.exprs }

func (j judge) match(m api.Match) bool {
	return len(m.Spots) == len(m.Rels)+1 && all(m.Spots, j.spot) && all(m.Rels, j.rel) && (m.Where == none || j.place(m.Where))
}

func (j judge) spot(s api.Spot) bool {
	return maybe(s.Var, s.Key) && all(s.Labels, tokens.IsName)
}

func (j judge) rel(r api.Rel) bool {
	if !maybe(r.Var, r.Type) {
		return false
	}
	if r.Low == 0 && r.High == 0 {
		return true
	}
	return r.Var == "" && 1 <= r.Low && r.Low <= r.High && r.High <= api.MaxHops
}

// result asks whether a query is one with a result that may be.
func (j judge) result(q api.Query) bool {
	return j.items > 0 && len(q.Muts) == 0 && all(q.Items, j.item) && all(q.Sorts, j.sort) && all([]int{q.Skip, q.Limit}, j.count)
}

func (j judge) item(i api.Item) bool {
	if i.Kind == api.ItRows {
		return i.Expr == none
	}
	return api.ItPlain <= i.Kind && i.Kind <= api.ItMax && j.place(i.Expr)
}

func (j judge) sort(s api.Sort) bool { return 1 <= s.Column && s.Column <= j.items }

func (j judge) count(n int) bool { return n == none || 0 <= n && n <= api.MaxNum }

// mutations asks whether a query is one with mutations that may be.
func (j judge) mutations(q api.Query) bool {
	noResult := !q.Distinct && len(q.Items)+len(q.Sorts) == 0 && q.Skip == none && q.Limit == none
	return len(q.Muts) > 0 && noResult && all(q.Muts, j.mutation)
}

func (j judge) mutation(m api.Mut) bool {
	switch m.Kind {
	case api.MutNode:
		return keyed(m.A) && m.B == api.Ref{} && m.Name == "" && all(m.Labels, tokens.IsName) && m.Expr == none
	case api.MutEdge:
		return (keyed(m.A) || bound(m.A)) && (keyed(m.B) || bound(m.B)) && tokens.IsName(m.Name) && len(m.Labels) == 0 && m.Expr == none
	}
	return bound(m.A) && m.B == api.Ref{} && len(m.Labels) == 0 && j.change(m)
}

// change asks whether a mutation of what a variable has may be, as far as it is told by its kind.
func (j judge) change(m api.Mut) bool {
	switch m.Kind {
	case api.MutSet:
		return tokens.IsName(m.Name) && j.place(m.Expr)
	case api.MutLabel, api.MutDrop, api.MutStrip:
		return tokens.IsName(m.Name) && m.Expr == none
	}
	return m.Kind == api.MutDelete && m.Name == "" && m.Expr == none
}

// keyed asks whether it is a node of a key.
func keyed(r api.Ref) bool { return r.Var == "" && tokens.IsName(r.Key) }

// bound asks whether it is a variable's.
func bound(r api.Ref) bool { return r.Key == "" && tokens.IsName(r.Var) }
