package expr

import (
	"slices"

	"hedgerow/api"
	"hedgerow/tokens"
)

// reader reads expressions of tokens. Each of the grammar's rules is a call that puts what it reads, and tells its place; behind a fault that means nothing.
type reader struct {
	tokens.Reader
	row  []api.Expr
	deep int // how many "(" and "NOT" stand around what is read
}

// Parse reads an expression.
func Parse(l []api.Token, row []api.Expr) ([]api.Expr, int, int, api.Errno) {
	r := reader{Reader: tokens.Reader{Left: l}, row: slices.Clone(row)}
	whole := r.or()
	if r.Err != api.OK {
		return nil, 0, 0, r.Err
	}
	return r.row, whole, len(l) - len(r.Left), api.OK
}

// put lays an expression behind the row, and tells its place.
func (r *reader) put(e api.Expr) int {
	r.row = append(r.row, e)
	return len(r.row) - 1
}

// value puts a value.
func (r *reader) value(v api.Value) int { return r.put(api.Expr{Kind: api.ExValue, Value: v}) }

// within reads what a "(" or "NOT" stands around.
func (r *reader) within(rule func() int) int {
	if r.deep == api.MaxDepth {
		r.Fail(api.ErrDeep)
		return 0
	}
	r.deep++
	place := rule()
	r.deep--
	return place
}

// pair goes on behind a left side, if what is between the sides of one of the kinds stands there: the place of both sides' expression, and true; else the left one's.
func (r *reader) pair(left int, side func() int, kinds ...int) (int, bool) {
	for _, kind := range kinds {
		if r.Takes(between[kind]) {
			right := side()
			return r.put(api.Expr{Kind: kind, L: left, R: right}), true
		}
	}
	return left, false
}

// pairs reads sides of a rule, from the left, as often as may be.
func (r *reader) pairs(side func() int, kinds ...int) int {
	whole, more := side(), true
	for more {
		whole, more = r.pair(whole, side, kinds...)
	}
	return whole
}

// The rules of two sides share pairs, or pair, where there is one sign at most; each names the next tighter rule for its sides.

func (r *reader) or() int { return r.pairs(r.and, api.ExOr) }

func (r *reader) and() int { return r.pairs(r.not, api.ExAnd) }

func (r *reader) not() int {
	if r.Takes("NOT") {
		return r.put(api.Expr{Kind: api.ExNot, L: r.within(r.not)})
	}
	return r.cmp()
}

func (r *reader) cmp() int {
	left := r.add()
	if r.Takes("IS") {
		return r.is(left)
	}
	whole, _ := r.pair(left, r.add, api.ExEq, api.ExNe, api.ExLt, api.ExLe, api.ExGt, api.ExGe)
	return whole
}

// is reads what stands behind an "IS".
func (r *reader) is(left int) int {
	kind := api.ExNull
	if r.Takes("NOT") {
		kind = api.ExSome
	}
	r.Needs("NULL")
	return r.put(api.Expr{Kind: kind, L: left})
}

func (r *reader) add() int { return r.pairs(r.mul, api.ExAdd, api.ExSub) }

func (r *reader) mul() int { return r.pairs(r.prim, api.ExMul) }

func (r *reader) prim() int {
	switch {
	case r.Takes("("):
		whole := r.within(r.or)
		r.Needs(")")
		return whole
	case r.Takes("MANY"):
		return r.many()
	case r.Takes("-"):
		return r.below()
	case r.Takes("@"):
		return r.value(api.Value{Kind: api.Node, Text: r.Name()})
	case r.Takes("TRUE"):
		return r.value(api.Value{Kind: api.Bool, Num: 1})
	case r.Takes("FALSE"):
		return r.value(api.Value{Kind: api.Bool})
	case r.Takes("NULL"):
		return r.value(api.Value{})
	}
	return r.plain()
}

// many reads what stands behind a "MANY".
func (r *reader) many() int {
	r.Needs("(")
	e := api.Expr{Kind: api.ExMany, Var: r.Name()}
	r.Needs(".")
	e.Prop = r.Name()
	r.Needs(")")
	return r.put(e)
}

// below reads the number behind a "-" that has no left side.
func (r *reader) below() int {
	n := r.One(api.TokNum).Num
	if n == 0 {
		r.Fail(api.ErrSyntax)
	}
	return r.value(api.Value{Kind: api.Int, Num: -n})
}

// plain reads what a number, a text or a name begins.
func (r *reader) plain() int {
	t := r.One(api.TokNum, api.TokText, api.TokName)
	switch t.Kind {
	case api.TokNum:
		return r.value(api.Value{Kind: api.Int, Num: t.Num})
	case api.TokText:
		return r.value(api.Value{Kind: api.Text, Text: t.Text})
	}
	if r.Takes(".") {
		return r.put(api.Expr{Kind: api.ExProp, Var: t.Text, Prop: r.Name()})
	}
	return r.put(api.Expr{Kind: api.ExVar, Var: t.Text})
}
