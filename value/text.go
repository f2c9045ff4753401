package value

import (
	"strconv"
	"strings"

	"hedgerow/api"
)

// longest is how long a value's text is at most: that of MaxText bytes, each with a "\" ahead of it, between two "'".
const longest = 2*api.MaxText + 2

// String is a value's text.
func String(v api.Value) string {
	if !Right(v) {
		return ""
	}
	switch v.Kind {
	case api.Bool:
		return strconv.FormatBool(v.Num == 1)
	case api.Int:
		return strconv.Itoa(v.Num)
	case api.Text:
		return quoted(v.Text)
	case api.Node:
		return "(" + v.Text + ")"
	case api.Edge:
		return "[" + v.Text + "]"
	}
	return "null"
}

// quoted is a text between two "'".
func quoted(s string) string {
	var b strings.Builder
	b.WriteByte('\'')
	for _, sign := range s {
		if sign == '\'' || sign == '\\' {
			b.WriteByte('\\')
		}
		b.WriteRune(sign)
	}
	b.WriteByte('\'')
	return b.String()
}

// Parse reads a text.
func Parse(s string) (api.Value, bool) {
	if s == "" || len(s) > longest {
		return api.Value{}, false
	}
	// Only one value can have the text; whether it has is asked of String, so that both always agree.
	v := likely(s)
	if String(v) != s {
		return api.Value{}, false
	}
	return v, true
}

// likely is the only value that can have a text, which isn't empty; it may not have it, or not be.
func likely(s string) api.Value {
	switch {
	case s == "null":
		return api.Value{}
	case s == "false":
		return api.Value{Kind: api.Bool}
	case s == "true":
		return api.Value{Kind: api.Bool, Num: 1}
	case s[0] == '\'':
		return api.Value{Kind: api.Text, Text: unquoted(s)}
	case s[0] == '(':
		return api.Value{Kind: api.Node, Text: inner(s)}
	case s[0] == '[':
		return api.Value{Kind: api.Edge, Text: inner(s)}
	}
	// What is no number comes as 0 or as one beyond all Ints: neither has this text.
	n, _ := strconv.Atoi(s)
	return api.Value{Kind: api.Int, Num: n}
}

// inner is a text without its first and its last byte.
func inner(s string) string {
	if len(s) < 2 {
		return ""
	}
	return s[1 : len(s)-1]
}

// unquoted is what a text between two "'" says.
func unquoted(s string) string {
	var b strings.Builder
	after := false
	for _, sign := range inner(s) {
		after = sign == '\\' && !after
		if !after {
			b.WriteRune(sign)
		}
	}
	return b.String()
}
