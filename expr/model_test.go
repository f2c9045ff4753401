package expr_test

import (
	"fmt"
	"slices"
	"strconv"
	"strings"
	"testing"

	"hedgerow/api"
	"hedgerow/expr"
	"hedgerow/lex"
)

// The chapter's words, written otherwise than the program: how far an expression goes is told by a row of states, token by token; what it comes to, by splitting it at its loosest sign.

// is asks whether a token is one of some words of the language, or signs.
func is(t api.Token, texts ...string) bool {
	kind := api.TokSign
	if t.Text != "" && t.Text[0] >= 'A' && t.Text[0] <= 'Z' {
		kind = api.TokWord
	}
	return t.Kind == kind && t.Num == 0 && slices.Contains(texts, t.Text)
}

// alone asks whether a token is of a kind, and may be.
func alone(t api.Token, kind int) bool {
	s, ok := lex.Text([]api.Token{t})
	return ok && s != "" && t.Kind == kind
}

// at is a token of a row; nothing, if there is none.
func at(l []api.Token, i int) api.Token {
	if i >= len(l) {
		return api.Token{}
	}
	return l[i]
}

// primSize is how many tokens the prim has with which tokens begin, one in brackets aside; 0: they don't begin with one.
func primSize(l []api.Token) int {
	name := func(i int) bool { return alone(at(l, i), api.TokName) }
	switch {
	case alone(at(l, 0), api.TokNum), alone(at(l, 0), api.TokText), is(at(l, 0), "TRUE", "FALSE", "NULL"):
		return 1
	case is(at(l, 0), "-") && alone(at(l, 1), api.TokNum) && l[1].Num > 0, is(at(l, 0), "@") && name(1):
		return 2
	case is(at(l, 0), "MANY") && is(at(l, 1), "(") && name(2) && is(at(l, 3), ".") && name(4) && is(at(l, 5), ")"):
		return 6
	case name(0) && !is(at(l, 1), "."):
		return 1
	case name(0) && name(2):
		return 3
	}
	return 0
}

// frame is what stands around a place, from the last "(" on: how many NOTs; whether a comparison was read, and whether it was one with IS.
type frame struct {
	nots         int
	compared, is bool
}

// reach is how many tokens the expression has with which tokens begin; else what the chapter tells of it.
func reach(l []api.Token) (int, api.Errno) {
	frames := []frame{{}}
	wanted, loose, i, deep := true, true, 0, 0
	for {
		f := &frames[len(frames)-1]
		t := at(l, i)
		switch {
		case wanted && (loose && is(t, "NOT") || is(t, "(")):
			if deep++; deep > 64 {
				return 0, api.ErrDeep
			}
			if is(t, "NOT") {
				f.nots++
			} else {
				frames, loose = append(frames, frame{}), true
			}
			i++
		case wanted:
			size := primSize(l[min(i, len(l)):])
			if size == 0 {
				return 0, api.ErrSyntax
			}
			wanted, i = false, i+size
		case is(t, "OR", "AND"):
			deep -= f.nots
			*f = frame{}
			wanted, loose, i = true, true, i+1
		case is(t, "=", "<>", "<", "<=", ">", ">=") && !f.compared:
			f.compared = true
			wanted, loose, i = true, false, i+1
		case is(t, "IS") && !f.compared:
			f.compared, f.is = true, true
			i++
			if is(at(l, i), "NOT") {
				i++
			}
			if !is(at(l, i), "NULL") {
				return 0, api.ErrSyntax
			}
			i++
		case is(t, "+", "-", "*") && !f.is:
			wanted, loose, i = true, false, i+1
		case is(t, ")") && len(frames) > 1:
			deep -= f.nots + 1
			frames = frames[:len(frames)-1]
			i++
		case len(frames) > 1:
			return 0, api.ErrSyntax
		default:
			return i, api.OK
		}
	}
}

// top are the places of tokens, of those outside of all brackets, that are one of some; a "-" counts only behind what may be a left side.
func top(l []api.Token, texts ...string) []int {
	var places []int
	deep := 0
	for i, t := range l {
		if is(t, ")") {
			deep--
		}
		sided := i > 0 && (is(l[i-1], ")", "TRUE", "FALSE", "NULL") || l[i-1].Kind != api.TokWord && l[i-1].Kind != api.TokSign)
		if deep == 0 && is(t, texts...) && (sided || !is(t, "-")) {
			places = append(places, i)
		}
		if is(t, "(") {
			deep++
		}
	}
	return places
}

// tree is the expression that tokens are, all of them, each part of it in brackets.
func tree(l []api.Token) string {
	split := func(places []int, last bool) string {
		i := places[0]
		if last {
			i = places[len(places)-1]
		}
		return "(" + tree(l[:i]) + " " + l[i].Text + " " + tree(l[i+1:]) + ")"
	}
	if places := top(l, "OR"); len(places) > 0 {
		return split(places, true)
	}
	if places := top(l, "AND"); len(places) > 0 {
		return split(places, true)
	}
	if is(l[0], "NOT") {
		return "(NOT " + tree(l[1:]) + ")"
	}
	if places := top(l, "=", "<>", "<", "<=", ">", ">="); len(places) > 0 {
		return split(places, false)
	}
	if places := top(l, "IS"); len(places) > 0 {
		text, _ := lex.Text(l[places[0]:])
		return "(" + tree(l[:places[0]]) + " " + text + ")"
	}
	if places := top(l, "+", "-"); len(places) > 0 {
		return split(places, true)
	}
	if places := top(l, "*"); len(places) > 0 {
		return split(places, true)
	}
	if is(l[0], "(") {
		return tree(l[1 : len(l)-1])
	}
	text, _ := lex.Text(l)
	return text
}

// twoSided are the signs of the kinds of two sides, by the chapter's numbers.
var twoSided = map[int]string{8: "OR", 9: "AND", 10: "=", 11: "<>", 12: "<", 13: "<=", 14: ">", 15: ">=", 16: "+", 17: "-", 18: "*"}

// shape is the expression at a place, written as tree does.
func shape(row []api.Expr, i int) string {
	e := row[i]
	switch e.Kind {
	case 1:
		return shapeValue(e.Value)
	case 2:
		return e.Var
	case 3:
		return e.Var + " . " + e.Prop
	case 4:
		return "MANY ( " + e.Var + " . " + e.Prop + " )"
	case 5:
		return "(NOT " + shape(row, e.L) + ")"
	case 6:
		return "(" + shape(row, e.L) + " IS NULL)"
	case 7:
		return "(" + shape(row, e.L) + " IS NOT NULL)"
	}
	return "(" + shape(row, e.L) + " " + twoSided[e.Kind] + " " + shape(row, e.R) + ")"
}

// shapeValue is a value, written as tree does; nothing, if it is a Bool that may not be.
func shapeValue(v api.Value) string {
	switch v.Kind {
	case api.Bool:
		return map[int]string{0: "FALSE", 1: "TRUE"}[v.Num]
	case api.Int:
		if v.Num < 0 {
			return "- " + strconv.Itoa(-v.Num)
		}
		return strconv.Itoa(v.Num)
	case api.Text:
		return "'" + strings.NewReplacer(`\`, `\\`, "'", `\'`).Replace(v.Text) + "'"
	case api.Node:
		return "@ " + v.Text
	}
	return "NULL"
}

// bare are the tokens without each pair of brackets that may go.
func bare(l []api.Token) []api.Token {
	l = slices.Clone(l)
	want := tree(l)
	for i := 0; i < len(l); i++ {
		if !is(l[i], "(") || i > 0 && is(l[i-1], "MANY") {
			continue
		}
		end, deep := i, 0
		for ; ; end++ {
			if is(l[end], "(") {
				deep++
			}
			if is(l[end], ")") {
				if deep--; deep == 0 {
					break
				}
			}
		}
		less := slices.Concat(l[:i], l[i+1:end], l[end+1:])
		if n, err := reach(less); err == api.OK && n == len(less) && tree(less) == want {
			l = less
			i--
		}
	}
	return l
}

// order tells the places of the expressions at and below one: the left side's, the right side's, its own.
func order(row []api.Expr, i int) []int {
	var places []int
	switch e := row[i]; {
	case e.Kind >= 8:
		places = append(order(row, e.L), order(row, e.R)...)
	case e.Kind >= 5:
		places = order(row, e.L)
	}
	return append(places, i)
}

// text is tokens as text, of any sort.
func text(l []api.Token) string {
	if s, ok := lex.Text(l); ok {
		return s
	}
	return fmt.Sprint(l)
}

// asked holds what the calls answer of tokens against the model.
func asked(t *testing.T, l []api.Token) {
	t.Helper()
	row, place, size, err := expr.Parse(l, nil)
	wantSize, wantErr := reach(l)
	if err != wantErr || size != wantSize {
		t.Fatalf("Parse(%s) tells %d tokens, %d; the model %d, %d", text(l), size, err, wantSize, wantErr)
	}
	if err != api.OK {
		if len(row) != 0 || place != 0 {
			t.Fatalf("Parse(%s) tells %v, %d beside %d", text(l), row, place, err)
		}
		return
	}
	if place != len(row)-1 || shape(row, place) != tree(l[:size]) {
		t.Fatalf("Parse(%s) is %v, %d: %s", text(l), row, place, shape(row, place))
	}
	for i, at := range order(row, place) {
		if at != i {
			t.Fatalf("Parse(%s) is %v: %d stands in the place of %d", text(l), row, at, i)
		}
	}
	if expr.Right(row) != api.OK {
		t.Fatalf("Parse(%s) is %v, which may not be", text(l), row)
	}
	told, ok := expr.Tokens(row, place)
	if want := bare(l[:size]); !ok || !slices.Equal(told, want) {
		t.Fatalf("the tokens of %s are %s, %v, not %s", text(l), text(told), ok, text(want))
	}
	again, place, size, err := expr.Parse(told, nil)
	if !slices.Equal(again, row) || place != len(row)-1 || size != len(told) || err != api.OK {
		t.Fatalf("%s are parsed as %v, %d, %d, %d, not as %v", text(told), again, place, size, err, row)
	}
}
