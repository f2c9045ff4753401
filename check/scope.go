package check

import (
	"hedgerow/api"
	"hedgerow/expr"
	"hedgerow/parse"
)

// scope is what is bound as far as a query has been gone through.
// It keeps the first fault and goes on: what it has behind one means nothing.
type scope struct {
	exprs []api.Expr
	bound map[string]Bound
	order []Bound // the same ones, as they were bound
	err   api.Errno
}

// survey tells all that a query binds, in order, or its first fault.
func survey(q api.Query) ([]Bound, api.Errno) {
	if err := parse.Right(q); err != api.OK {
		return nil, err
	}
	s := scope{exprs: q.Exprs, bound: map[string]Bound{}}
	for i, m := range q.Matches {
		s.match(m, i)
	}
	for _, item := range q.Items {
		s.expression(item.Expr)
	}
	for _, m := range q.Muts {
		s.mutation(m)
	}
	if s.err != api.OK {
		return nil, s.err
	}
	return s.order, api.OK
}

// fail keeps a fault, if it is the first one.
func (s *scope) fail(err api.Errno) {
	if s.err == api.OK {
		s.err = err
	}
}

// match binds what a match does, then asks for what its Where uses.
func (s *scope) match(m api.Match, number int) {
	for i, spot := range m.Spots {
		s.bind(Bound{Var: spot.Var, Kind: api.Node, Match: number})
		if i < len(m.Rels) {
			s.bind(Bound{Var: m.Rels[i].Var, Kind: api.Edge, Match: number})
		}
	}
	s.expression(m.Where)
}

// bind binds a variable, if there is one; one that is bound already has to be so as the same thing.
func (s *scope) bind(b Bound) {
	if b.Var == "" {
		return
	}
	switch old, ok := s.bound[b.Var]; {
	case !ok:
		s.bound[b.Var] = b
		s.order = append(s.order, b)
	case old.Kind != b.Kind:
		s.fail(api.ErrType)
	}
}

// expression asks that all variables of an expression are bound; in no place none is used.
func (s *scope) expression(place int) {
	for _, name := range expr.Vars(s.exprs, place) {
		s.variable(name, false)
	}
}

// mutation asks that all variables of a mutation are bound, as nodes, if it needs them so.
func (s *scope) mutation(m api.Mut) {
	node := m.Kind == api.MutEdge || m.Kind == api.MutLabel || m.Kind == api.MutStrip
	for _, ref := range []api.Ref{m.A, m.B} {
		if ref.Var != "" {
			s.variable(ref.Var, node)
		}
	}
	s.expression(m.Expr)
}

// variable asks that a variable is bound, and perhaps as a node.
func (s *scope) variable(name string, node bool) {
	switch b, ok := s.bound[name]; {
	case !ok:
		s.fail(api.ErrName)
	case node && b.Kind != api.Node:
		s.fail(api.ErrType)
	}
}
