package parse_test

import (
	"fmt"
	"reflect"
	"regexp"
	"slices"
	"strconv"
	"strings"
	"testing"

	"hedgerow/api"
	"hedgerow/expr"
	"hedgerow/lex"
	"hedgerow/parse"
)

// The chapter's words, written otherwise than the program: tokens are laid into one line, in which each expression is "E" and its place; the grammar of lines is a pattern, and a query is what smaller patterns find in a line that it tells.

const (
	patName  = `_(\w+) `
	patVar   = `(?:_(?P<var>\w+) )?`
	patLabel = `(?P<labels>(?:: _\w+ )*)`
	patSpot  = `\( ` + patVar + `(?:@ _(?P<key>\w+) )?` + patLabel + `\) `
	patHops  = `\* (?:(?P<low>1) \.\. (?P<high>[1-8])|(?P<low>2) \.\. (?P<high>[2-8])|(?P<low>3) \.\. (?P<high>[3-8])|(?P<low>4) \.\. (?P<high>[4-8])|(?P<low>5) \.\. (?P<high>[5-8])|(?P<low>6) \.\. (?P<high>[6-8])|(?P<low>7) \.\. (?P<high>[78])|(?P<low>8) \.\. (?P<high>8)) `
	patInner = `\[ (?:` + patVar + `(?:: _(?P<type>\w+) )?|(?:: _(?P<type>\w+) )?` + patHops + `)\] `
	patRel   = `(?:- ` + patInner + `-> |(?P<back><-) ` + patInner + `- )`
	patMatch = `(?P<optional>OPTIONAL )?MATCH ` + patSpot + `(?:` + patRel + patSpot + `)*(?:WHERE E(?P<expr>\d+) )?`
	patItem  = `(?:(?P<over>COUNT) \( \* \) |(?P<over>COUNT|SUM|MIN|MAX) \( E(?P<expr>\d+) \) |E(?P<expr>\d+) )`
	patSort  = `(?P<column>[1-9]\d*) (?P<desc>DESC )?`
	patItems = `RETURN (?P<distinct>DISTINCT )?(?P<items>` + patItem + `(?:, ` + patItem + `)*)`
	patEnd   = `(?:ORDER BY (?P<sorts>` + patSort + `(?:, ` + patSort + `)*))?(?:SKIP (?P<skip>\d+) )?(?:LIMIT (?P<limit>\d+) )?`
	patMut   = `(?:(?P<edge>CREATE) (?P<from>(?:@ )?_\w+ )- : _(?P<name>\w+) -> (?P<to>(?:@ )?_\w+ )|(?P<node>CREATE) @ _(?P<key>\w+) ` + patLabel + `|(?P<set>SET) _(?P<var>\w+) \. _(?P<name>\w+) = E(?P<expr>\d+) |(?P<label>SET) _(?P<var>\w+) : _(?P<name>\w+) |(?P<drop>REMOVE) _(?P<var>\w+) \. _(?P<name>\w+) |(?P<strip>REMOVE) _(?P<var>\w+) : _(?P<name>\w+) |(?P<delete>DELETE) _(?P<var>\w+) )`
)

var (
	isLine   = regexp.MustCompile(`^(?:` + patMatch + `)*(?:` + patItems + patEnd + `|(?:` + patMut + `)+)$`)
	hasSpot  = regexp.MustCompile(patSpot)
	hasRel   = regexp.MustCompile(patRel)
	hasMatch = regexp.MustCompile(patMatch)
	hasItem  = regexp.MustCompile(patItem)
	hasSort  = regexp.MustCompile(patSort)
	hasEnd   = regexp.MustCompile(patItems + patEnd)
	hasMut   = regexp.MustCompile(patMut)
	hasName  = regexp.MustCompile(patName)
)

// found are the parts of all that a pattern finds in a line, by their names.
func found(has *regexp.Regexp, s string) []map[string]string {
	var l []map[string]string
	for _, texts := range has.FindAllStringSubmatch(s, -1) {
		parts := map[string]string{}
		for i, name := range has.SubexpNames() {
			if texts[i] != "" {
				parts[name] = texts[i]
			}
		}
		l = append(l, parts)
	}
	return l
}

// number is that of a text; if there is none, another one.
func number(s string, none int) int {
	if s == "" {
		return none
	}
	n, err := strconv.Atoi(s)
	if err != nil {
		panic(err)
	}
	return n
}

// written is a token in a line.
func written(t api.Token) string {
	if _, ok := lex.Text([]api.Token{t}); !ok {
		return "X "
	}
	switch t.Kind {
	case api.TokName:
		return "_" + t.Text + " "
	case api.TokNum:
		return strconv.Itoa(t.Num) + " "
	case api.TokText:
		return "T "
	}
	return t.Text + " "
}

// overs are the words that may stand ahead of an item's brackets.
var overs = []string{"COUNT ", "SUM ", "MIN ", "MAX "}

// begins asks whether an expression may begin behind what was written.
func begins(line []string) bool {
	at := func(i int) string {
		if i > len(line) {
			return ""
		}
		return line[len(line)-i]
	}
	if slices.Contains(line, "ORDER ") {
		return false
	}
	return slices.Contains([]string{"WHERE ", "RETURN ", "DISTINCT ", ", ", "= "}, at(1)) || at(1) == "( " && slices.Contains(overs, at(2))
}

// lined is what tokens come to: their line, the row of the expressions, and the tokens with the fewest brackets in these (nothing, if one has too many).
// ErrDeep: an expression is too deep; then the line is that of what stands ahead of it.
func lined(l []api.Token) (string, []api.Expr, []api.Token, api.Errno) {
	var line []string
	var row []api.Expr
	var told []api.Token
	tooMany := false
	for i := 0; i < len(l); {
		if begins(line) {
			more, place, n, err := expr.Parse(l[i:], row)
			if err == api.ErrDeep {
				return strings.Join(line, ""), nil, nil, err
			}
			if err == api.OK {
				row = more
				line = append(line, "E"+strconv.Itoa(place)+" ")
				few, ok := expr.Tokens(row, place)
				told = append(told, few...)
				tooMany = tooMany || !ok
				i += n
				continue
			}
		}
		line = append(line, written(l[i]))
		told = append(told, l[i])
		i++
	}
	if tooMany {
		told = nil
	}
	return strings.Join(line, ""), row, told, api.OK
}

// modelQuery is the query that tokens are, and its tokens; else what the chapter tells of them.
func modelQuery(l []api.Token) (api.Query, []api.Token, api.Errno) {
	line, row, told, err := lined(l)
	if err == api.ErrDeep {
		// It is the first error, if something could go on to a query there.
		for _, rest := range []string{"E0 ", "E0 RETURN E0 ", "E0 ) "} {
			if isLine.MatchString(line + rest) {
				return api.Query{}, nil, api.ErrDeep
			}
		}
		return api.Query{}, nil, api.ErrSyntax
	}
	if !isLine.MatchString(line) {
		return api.Query{}, nil, api.ErrSyntax
	}
	q := api.Query{Exprs: row, Skip: -1, Limit: -1}
	for _, m := range hasMatch.FindAllString(line, -1) {
		q.Matches = append(q.Matches, modelMatch(m))
	}
	modelResult(line, &q)
	for _, parts := range found(hasMut, line) {
		q.Muts = append(q.Muts, modelMut(parts))
	}
	for _, s := range q.Sorts {
		if s.Column > len(q.Items) {
			return api.Query{}, nil, api.ErrSyntax
		}
	}
	return q, told, api.OK
}

// modelLabels are those of a part of a line.
func modelLabels(s string) []string {
	var l []string
	for _, texts := range hasName.FindAllStringSubmatch(s, -1) {
		l = append(l, texts[1])
	}
	return l
}

func modelMatch(s string) api.Match {
	parts := found(hasMatch, s)[0]
	m := api.Match{Optional: parts["optional"] != "", Where: number(parts["expr"], -1)}
	for _, p := range found(hasSpot, s) {
		m.Spots = append(m.Spots, api.Spot{Var: p["var"], Key: p["key"], Labels: modelLabels(p["labels"])})
	}
	for _, p := range found(hasRel, s) {
		m.Rels = append(m.Rels, api.Rel{Var: p["var"], Type: p["type"], Back: p["back"] != "", Low: number(p["low"], 0), High: number(p["high"], 0)})
	}
	return m
}

func modelResult(line string, q *api.Query) {
	for _, end := range found(hasEnd, line) {
		q.Distinct = end["distinct"] != ""
		for _, p := range found(hasItem, end["items"]) {
			kind := map[string]int{"COUNT": 2, "SUM": 3, "MIN": 4, "MAX": 5}[p["over"]]
			if kind == 2 && p["expr"] == "" {
				kind = 1
			}
			q.Items = append(q.Items, api.Item{Kind: kind, Expr: number(p["expr"], -1)})
		}
		for _, p := range found(hasSort, end["sorts"]) {
			q.Sorts = append(q.Sorts, api.Sort{Column: number(p["column"], 0), Desc: p["desc"] != ""})
		}
		q.Skip, q.Limit = number(end["skip"], -1), number(end["limit"], -1)
	}
}

func modelRef(s string) api.Ref {
	name := hasName.FindStringSubmatch(s)[1]
	if s[0] == '@' {
		return api.Ref{Key: name}
	}
	return api.Ref{Var: name}
}

func modelMut(p map[string]string) api.Mut {
	m := api.Mut{A: api.Ref{Var: p["var"], Key: p["key"]}, Name: p["name"], Labels: modelLabels(p["labels"]), Expr: number(p["expr"], -1)}
	for kind, name := range []string{1: "node", 2: "edge", 3: "set", 4: "label", 5: "drop", 6: "strip", 7: "delete"} {
		if name != "" && p[name] != "" {
			m.Kind = kind
		}
	}
	if m.Kind == 2 {
		m.A, m.B = modelRef(p["from"]), modelRef(p["to"])
	}
	return m
}

// plain is a query in which all that is empty is nil.
func plain(q api.Query) api.Query {
	q.Exprs, q.Items, q.Sorts = filled(q.Exprs), filled(q.Items), filled(q.Sorts)
	q.Matches = filled(q.Matches)
	for i, m := range q.Matches {
		m.Spots, m.Rels = filled(m.Spots), filled(m.Rels)
		for i, s := range m.Spots {
			m.Spots[i].Labels = filled(s.Labels)
		}
		q.Matches[i] = m
	}
	q.Muts = filled(q.Muts)
	for i, m := range q.Muts {
		q.Muts[i].Labels = filled(m.Labels)
	}
	return q
}

// filled is a copy of a list, nil if it is empty.
func filled[T any](l []T) []T {
	return append([]T(nil), l...)
}

// same asks whether two queries are the same.
func same(a, b api.Query) bool { return reflect.DeepEqual(plain(a), plain(b)) }

// nothing asks whether a query is the zero one.
func nothing(q api.Query) bool { return same(q, api.Query{}) }

// text is tokens' text, for what a test tells.
func text(l []api.Token) string {
	var texts []string
	for _, t := range l {
		if s, ok := lex.Text([]api.Token{t}); ok {
			texts = append(texts, s)
		} else {
			texts = append(texts, fmt.Sprintf("%+v", t))
		}
	}
	return strings.Join(texts, " ")
}

// asked holds what all calls tell of tokens against the model, and tells whether they are a query.
func asked(t *testing.T, l []api.Token) bool {
	t.Helper()
	want, few, wantErr := modelQuery(l)
	before := slices.Clone(l)
	q, err := parse.Query(l)
	if err != wantErr || !same(q, want) {
		t.Fatalf("Query(%s) is %+v, %d, not %+v, %d", text(l), q, err, want, wantErr)
	}
	if !slices.Equal(l, before) {
		t.Fatalf("Query(%s) changes its tokens", text(before))
	}
	spoken(t, l)
	if err == api.OK {
		back(t, q, few)
	}
	return err == api.OK
}

// spoken holds what Text tells of tokens' text against what Query tells of them.
func spoken(t *testing.T, l []api.Token) {
	t.Helper()
	s, ok := lex.Text(l)
	if !ok || len(s) > api.MaxQuery {
		return
	}
	want, wantErr := parse.Query(l)
	if q, err := parse.Text(s); err != wantErr || !same(q, want) {
		t.Fatalf("Text(%s) is %+v, %d, not %+v, %d", s, q, err, want, wantErr)
	}
}

// back holds what is told of a query that was parsed against its tokens: those with the fewest brackets, nil if there are too many.
func back(t *testing.T, q api.Query, few []api.Token) {
	t.Helper()
	before := plain(q)
	if err := parse.Right(q); err != api.OK {
		t.Fatalf("Right(%+v) is %d", q, err)
	}
	l, ok := parse.Tokens(q)
	if ok != (few != nil) || !slices.Equal(l, few) {
		t.Fatalf("Tokens(%+v) are %s, %v, not %s", q, text(l), ok, text(few))
	}
	wantText, wantOk := "", false
	if ok {
		wantText, wantOk = lex.Text(few)
	}
	if s, ok := parse.String(q); s != wantText || ok != wantOk {
		t.Fatalf("String(%+v) is %s, %v, not %s", q, s, ok, wantText)
	}
	if !same(q, before) {
		t.Fatalf("%+v was changed", q)
	}
	if again, err := parse.Query(l); ok && (err != api.OK || !same(again, q)) {
		t.Fatalf("%s are parsed as %+v, %d, not as %+v", text(l), again, err, q)
	}
}
