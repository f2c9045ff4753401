package expr

import (
	"hedgerow/api"
	"hedgerow/value"
)

// longest is how many tokens are told at most.
const longest = 4096

// The grammar's rules, from the loosest on: the tokens of each one are of those ahead of it, too.
const (
	ruleOr = iota
	ruleAnd
	ruleNot
	ruleCmp
	ruleAdd
	ruleMul
	rulePrim
)

// between is what stands between the sides of each kind of two.
var between = [...]string{
	api.ExOr: "OR", api.ExAnd: "AND",
	api.ExEq: "=", api.ExNe: "<>", api.ExLt: "<", api.ExLe: "<=", api.ExGt: ">", api.ExGe: ">=",
	api.ExAdd: "+", api.ExSub: "-", api.ExMul: "*",
}

// ruleOf is the tightest rule of which a kind's tokens are.
func ruleOf(kind int) int {
	switch kind {
	case api.ExValue, api.ExVar, api.ExProp, api.ExMany:
		return rulePrim
	case api.ExNot:
		return ruleNot
	case api.ExOr:
		return ruleOr
	case api.ExAnd:
		return ruleAnd
	case api.ExAdd, api.ExSub:
		return ruleAdd
	case api.ExMul:
		return ruleMul
	}
	return ruleCmp
}

// named is a name's token.
func named(s string) api.Token { return api.Token{Kind: api.TokName, Text: s} }

// mark is a word's token, or a sign's.
func mark(s string) api.Token {
	if value.Name(s) {
		return api.Token{Kind: api.TokWord, Text: s}
	}
	return api.Token{Kind: api.TokSign, Text: s}
}

// spell tells an expression's tokens, and its sides between them, from the left on: of a side the rule of which its tokens must be, brackets aside.
func spell(e api.Expr, token func(api.Token), side func(i, rule int)) {
	own := ruleOf(e.Kind)
	switch e.Kind {
	case api.ExValue:
		spellValue(e.Value, token)
	case api.ExVar:
		token(named(e.Var))
	case api.ExProp:
		spellProp(e, token)
	case api.ExMany:
		token(mark("MANY"))
		token(mark("("))
		spellProp(e, token)
		token(mark(")"))
	case api.ExNot:
		token(mark("NOT"))
		side(e.L, own)
	case api.ExNull:
		side(e.L, own+1)
		token(mark("IS"))
		token(mark("NULL"))
	case api.ExSome:
		side(e.L, own+1)
		token(mark("IS"))
		token(mark("NOT"))
		token(mark("NULL"))
	default:
		side(e.L, leftRule(own))
		token(mark(between[e.Kind]))
		side(e.R, own+1)
	}
}

// leftRule is the rule of which the left side of a rule's expressions must be.
func leftRule(rule int) int {
	// The others are read from the left, as often as may be; of these there is one at most.
	if rule == ruleCmp {
		return rule + 1
	}
	return rule
}

// spellProp tells the tokens of a variable's property.
func spellProp(e api.Expr, token func(api.Token)) {
	token(named(e.Var))
	token(mark("."))
	token(named(e.Prop))
}

// spellValue tells the tokens of a value that has some.
func spellValue(v api.Value, token func(api.Token)) {
	switch {
	case v.Kind == api.Node:
		token(mark("@"))
		token(named(v.Text))
	case v.Kind == api.Text:
		token(api.Token{Kind: api.TokText, Text: v.Text})
	case v.Kind == api.Int && v.Num < 0:
		token(mark("-"))
		token(api.Token{Kind: api.TokNum, Num: -v.Num})
	case v.Kind == api.Int:
		token(api.Token{Kind: api.TokNum, Num: v.Num})
	case v.Kind == api.Bool && v.Num == 1:
		token(mark("TRUE"))
	case v.Kind == api.Bool:
		token(mark("FALSE"))
	default:
		token(mark("NULL"))
	}
}

// size is how many tokens the expression at a place has, of a row that may be; of more than longest, any number above it.
func size(row []api.Expr, i int) int {
	return reckon(row, i, longest+1, func(e api.Expr, ahead []int) int {
		n := 0
		spell(e, func(api.Token) { n++ }, func(side, rule int) {
			n += ahead[side]
			if ruleOf(row[side].Kind) < rule {
				n += 2
			}
		})
		return n
	})
}

// Tokens are an expression's.
func Tokens(row []api.Expr, i int) ([]api.Token, bool) {
	// How many there are is asked first: of sides that are used again and again there may be more than could ever be laid.
	if !has(row, i) || size(row, i) > longest {
		return nil, false
	}
	var l []api.Token
	token := func(t api.Token) { l = append(l, t) }
	var side func(i, rule int)
	side = func(i, rule int) {
		if ruleOf(row[i].Kind) >= rule {
			spell(row[i], token, side)
			return
		}
		token(mark("("))
		spell(row[i], token, side)
		token(mark(")"))
	}
	side(i, ruleOr)
	return l, true
}
