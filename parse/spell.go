package parse

import (
	"hedgerow/api"
	"hedgerow/expr"
	"hedgerow/tokens"
)

// teller tells the tokens of a query that may be, part by part.
type teller struct {
	exprs   []api.Expr
	l       []api.Token // those that were told
	tooMany bool        // an expression has too many
}

// marks tells words, or signs.
func (w *teller) marks(texts ...string) {
	for _, text := range texts {
		w.l = append(w.l, tokens.Mark(text))
	}
}

// name tells a name with signs ahead of it; nothing, if there is no name.
func (w *teller) name(s string, signs ...string) {
	if s == "" {
		return
	}
	w.marks(signs...)
	w.l = append(w.l, tokens.Name(s))
}

// labels tells them, each with its sign.
func (w *teller) labels(l []string) {
	for _, s := range l {
		w.name(s, ":")
	}
}

// number tells a number.
func (w *teller) number(n int) {
	w.l = append(w.l, api.Token{Kind: api.TokNum, Num: n})
}

// count tells a number behind a word; nothing, if there is no number.
func (w *teller) count(word string, n int) {
	if n == none {
		return
	}
	w.marks(word)
	w.number(n)
}

// expression tells the expression at a place.
func (w *teller) expression(place int) {
	l, ok := expr.Tokens(w.exprs, place)
	if !ok {
		w.tooMany = true
	}
	w.l = append(w.l, l...)
}

// tellRow tells parts with a "," between.
func tellRow[T any](w *teller, l []T, part func(T)) {
	for i, x := range l {
		if i > 0 {
			w.marks(",")
		}
		part(x)
	}
}

func (w *teller) query(q api.Query) {
	for _, m := range q.Matches {
		w.match(m)
	}
	for _, m := range q.Muts {
		w.mutation(m)
	}
	if len(q.Items) > 0 {
		w.result(q)
	}
}

func (w *teller) match(m api.Match) {
	if m.Optional {
		w.marks("OPTIONAL")
	}
	w.marks("MATCH")
	for i, s := range m.Spots {
		if i > 0 {
			w.rel(m.Rels[i-1])
		}
		w.spot(s)
	}
	if m.Where != none {
		w.marks("WHERE")
		w.expression(m.Where)
	}
}

func (w *teller) spot(s api.Spot) {
	w.marks("(")
	w.name(s.Var)
	w.name(s.Key, "@")
	w.labels(s.Labels)
	w.marks(")")
}

func (w *teller) rel(r api.Rel) {
	begin, end := ends(r.Back)
	w.marks(begin, "[")
	w.name(r.Var)
	w.name(r.Type, ":")
	if r.High > 0 {
		w.marks("*")
		w.number(r.Low)
		w.marks("..")
		w.number(r.High)
	}
	w.marks("]", end)
}

func (w *teller) result(q api.Query) {
	w.marks("RETURN")
	if q.Distinct {
		w.marks("DISTINCT")
	}
	tellRow(w, q.Items, w.item)
	if len(q.Sorts) > 0 {
		w.marks("ORDER", "BY")
		tellRow(w, q.Sorts, w.sort)
	}
	w.count("SKIP", q.Skip)
	w.count("LIMIT", q.Limit)
}

func (w *teller) item(i api.Item) {
	switch i.Kind {
	case api.ItPlain:
		w.expression(i.Expr)
	case api.ItRows:
		w.marks(overs[api.ItCount], "(", "*", ")")
	default:
		w.marks(overs[i.Kind], "(")
		w.expression(i.Expr)
		w.marks(")")
	}
}

func (w *teller) sort(s api.Sort) {
	w.number(s.Column)
	if s.Desc {
		w.marks("DESC")
	}
}

func (w *teller) mutation(m api.Mut) {
	switch m.Kind {
	case api.MutNode:
		w.ref(m.A, "CREATE")
		w.labels(m.Labels)
	case api.MutEdge:
		w.ref(m.A, "CREATE")
		w.name(m.Name, "-", ":")
		w.ref(m.B, "->")
	case api.MutSet:
		w.part(m, "SET", ".")
		w.marks("=")
		w.expression(m.Expr)
	case api.MutLabel:
		w.part(m, "SET", ":")
	case api.MutDrop:
		w.part(m, "REMOVE", ".")
	case api.MutStrip:
		w.part(m, "REMOVE", ":")
	case api.MutDelete:
		w.ref(m.A, "DELETE")
	}
}

// part tells a variable's property, or its label, behind a word.
func (w *teller) part(m api.Mut, word, sign string) {
	w.ref(m.A, word)
	w.name(m.Name, sign)
}

// ref tells a variable, or a key, behind words or signs.
func (w *teller) ref(r api.Ref, ahead ...string) {
	w.marks(ahead...)
	w.name(r.Var)
	w.name(r.Key, "@")
}
