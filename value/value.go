// Package value is layer 1: what stands in a graph.
package value

import (
	"cmp"
	"strings"

	"hedgerow/api"
)

// between stands between an edge's names; no name has it, so a text has one reading at most.
const between = ">"

// Name asks whether a text is a name.
func Name(s string) bool {
	if s == "" || len(s) > api.MaxName {
		return false
	}
	for i, sign := range s {
		if !letter(sign) && (i == 0 || !digit(sign) && sign != '_') {
			return false
		}
	}
	return true
}

// letter asks whether a sign may begin a name.
func letter(sign rune) bool {
	return 'a' <= sign && sign <= 'z' || 'A' <= sign && sign <= 'Z'
}

// digit asks whether a sign is a decimal digit.
func digit(sign rune) bool {
	return '0' <= sign && sign <= '9'
}

// Right asks whether a value may be.
func Right(v api.Value) bool {
	switch v.Kind {
	case api.Null:
		return v.Num == 0 && v.Text == ""
	case api.Bool:
		return (v.Num == 0 || v.Num == 1) && v.Text == ""
	case api.Int:
		return -api.MaxNum <= v.Num && v.Num <= api.MaxNum && v.Text == ""
	case api.Text:
		return v.Num == 0 && plain(v.Text)
	case api.Node:
		return v.Num == 0 && Name(v.Text)
	case api.Edge:
		_, ok := names(v.Text)
		return v.Num == 0 && ok
	}
	return false
}

// plain asks whether a value of kind Text may say a text.
func plain(s string) bool {
	if len(s) > api.MaxText {
		return false
	}
	// Bytes above 126 that are part of a longer sign, or of none, come as signs above 126, too.
	for _, sign := range s {
		if sign < 32 || sign > 126 {
			return false
		}
	}
	return true
}

// names are the three that an edge's Text has; false: it has others.
func names(s string) (api.Link, bool) {
	from, rest, _ := strings.Cut(s, between)
	kind, to, _ := strings.Cut(rest, between)
	if !Name(from) || !Name(kind) || !Name(to) {
		return api.Link{}, false
	}
	return api.Link{From: from, Type: kind, To: to}, true
}

// Elem asks whether an element may be.
func Elem(e api.Elem) bool {
	edge, more := false, false
	switch e.Kind {
	case api.ElemNode:
	case api.ElemLabel, api.ElemProp:
		more = true
	case api.ElemEdge:
		edge = true
	case api.ElemTrait:
		edge, more = true, true
	default:
		return false
	}
	return Name(e.A) && held(e.B, edge) && held(e.C, edge) && held(e.D, more)
}

// held asks whether a text is a name where one is wanted, and empty where none is.
func held(s string, wanted bool) bool {
	if wanted {
		return Name(s)
	}
	return s == ""
}

// Compare orders values.
func Compare(a, b api.Value) int {
	if c := cmp.Compare(a.Kind, b.Kind); c != 0 {
		return c
	}
	if c := cmp.Compare(a.Num, b.Num); c != 0 {
		return c
	}
	return strings.Compare(a.Text, b.Text)
}

// OfLink is an edge's value.
func OfLink(l api.Link) api.Value {
	return api.Value{Kind: api.Edge, Text: l.From + between + l.Type + between + l.To}
}

// Link is an edge's names.
func Link(v api.Value) (api.Link, bool) {
	if v.Kind != api.Edge || v.Num != 0 {
		return api.Link{}, false
	}
	return names(v.Text)
}
