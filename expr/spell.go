package expr

import (
	"hedgerow/api"
	"hedgerow/tokens"
)

// longest is how many tokens are told at most.
const longest = 4096

// The grammar's rules, from the loosest on: the tokens of each one are of those ahead of it, too.
const (
	ruleOr = iota
	ruleAnd
	ruleNot
	ruleCmp
	ruleAdd
	ruleMul
	rulePrim
)

// between is what stands between the sides of each kind of two.
var between = [...]string{
	api.ExOr: "OR", api.ExAnd: "AND",
	api.ExEq: "=", api.ExNe: "<>", api.ExLt: "<", api.ExLe: "<=", api.ExGt: ">", api.ExGe: ">=",
	api.ExAdd: "+", api.ExSub: "-", api.ExMul: "*",
}

// ruleOf is the tightest rule of which a kind's tokens are.
func ruleOf(kind int) int {
	switch kind {
	case api.ExValue, api.ExVar, api.ExProp, api.ExMany:
		return rulePrim
	case api.ExNot:
		return ruleNot
	case api.ExOr:
		return ruleOr
	case api.ExAnd:
		return ruleAnd
	case api.ExAdd, api.ExSub:
		return ruleAdd
	case api.ExMul:
		return ruleMul
	}
	return ruleCmp
}

// spell tells an expression's tokens, and its sides between them, from the left on: of a side the rule of which its tokens must be, brackets aside.
func spell(e api.Expr, token func(api.Token), side func(i, rule int)) {
	own := ruleOf(e.Kind)
	switch e.Kind {
	case api.ExValue:
		spellValue(e.Value, token)
	case api.ExVar:
		token(tokens.Name(e.Var))
	case api.ExProp:
		spellProp(e, token)
	case api.ExMany:
		token(tokens.Mark("MANY"))
		token(tokens.Mark("("))
		spellProp(e, token)
		token(tokens.Mark(")"))
	case api.ExNot:
		token(tokens.Mark("NOT"))
		side(e.L, own)
	case api.ExNull:
		side(e.L, own+1)
		token(tokens.Mark("IS"))
		token(tokens.Mark("NULL"))
	case api.ExSome:
		side(e.L, own+1)
		token(tokens.Mark("IS"))
		token(tokens.Mark("NOT"))
		token(tokens.Mark("NULL"))
	default:
		side(e.L, leftRule(own))
		token(tokens.Mark(between[e.Kind]))
		side(e.R, own+1)
	}
}

// leftRule is the rule of which the left side of a rule's expressions must be.
func leftRule(rule int) int {
	// The others are read from the left, as often as may be; of these there is one at most.
	if rule == ruleCmp {
		return rule + 1
	}
	return rule
}

// spellProp tells the tokens of a variable's property.
func spellProp(e api.Expr, token func(api.Token)) {
	token(tokens.Name(e.Var))
	token(tokens.Mark("."))
	token(tokens.Name(e.Prop))
}

// spellValue tells the tokens of a value that has some.
func spellValue(v api.Value, token func(api.Token)) {
	switch {
	case v.Kind == api.Node:
		token(tokens.Mark("@"))
		token(tokens.Name(v.Text))
	case v.Kind == api.Text:
		token(api.Token{Kind: api.TokText, Text: v.Text})
	case v.Kind == api.Int && v.Num < 0:
		token(tokens.Mark("-"))
		token(api.Token{Kind: api.TokNum, Num: -v.Num})
	case v.Kind == api.Int:
		token(api.Token{Kind: api.TokNum, Num: v.Num})
	case v.Kind == api.Bool && v.Num == 1:
		token(tokens.Mark("TRUE"))
	case v.Kind == api.Bool:
		token(tokens.Mark("FALSE"))
	default:
		token(tokens.Mark("NULL"))
	}
}

// size is how many tokens the expression at a place has, of a row that may be; of more than longest, any number above it.
func size(row []api.Expr, i int) int {
	return reckon(row, i, longest+1, func(e api.Expr, ahead []int) int {
		n := 0
		spell(e, func(api.Token) { n++ }, func(side, rule int) {
			n += ahead[side]
			if ruleOf(row[side].Kind) < rule {
				n += 2
			}
		})
		return n
	})
}

// Tokens are an expression's.
func Tokens(row []api.Expr, i int) ([]api.Token, bool) {
	// How many there are is asked first: of sides that are used again and again there may be more than could ever be laid.
	if !has(row, i) || size(row, i) > longest {
		return nil, false
	}
	var l []api.Token
	token := func(t api.Token) { l = append(l, t) }
	var side func(i, rule int)
	side = func(i, rule int) {
		if ruleOf(row[i].Kind) >= rule {
			spell(row[i], token, side)
			return
		}
		token(tokens.Mark("("))
		spell(row[i], token, side)
		token(tokens.Mark(")"))
	}
	side(i, ruleOr)
	return l, true
}
