package lex

import (
	"slices"
	"strings"

	"hedgerow/api"
	"hedgerow/value"
)

// The bytes that a token may go on with, once it has begun as a number, or a name.
const (
	inNumbers = "0123456789"
	inNames   = "abcdefghijklmnopqrstuvwxyzABCDEFGHIJKLMNOPQRSTUVWXYZ_" + inNumbers
)

// first is the token that a text begins with, and how many bytes it has there: 0, if there is none.
func first(s string) (api.Token, int) {
	if t, size := name(s); size > 0 {
		return t, size
	}
	if t, size := number(s); size > 0 {
		return t, size
	}
	if t, size := text(s); size > 0 {
		return t, size
	}
	return sign(s)
}

// name reads a name, or a word, as first does.
func name(s string) (api.Token, int) {
	has := run(s, inNames)
	if !value.Name(has) {
		return api.Token{}, 0
	}
	if slices.Contains(Words(), has) {
		return api.Token{Kind: api.TokWord, Text: has}, len(has)
	}
	return api.Token{Kind: api.TokName, Text: has}, len(has)
}

// number reads a number, as first does.
func number(s string) (api.Token, int) {
	has := run(s, inNumbers)
	// Digits alone are no other value's text.
	v, ok := value.Parse(has)
	if !ok {
		return api.Token{}, 0
	}
	return api.Token{Kind: api.TokNum, Num: v.Num}, len(has)
}

// run is what a text begins with of bytes of a set.
func run(s, set string) string {
	return s[:len(s)-len(strings.TrimLeft(s, set))]
}

// text reads a text, as first does.
func text(s string) (api.Token, int) {
	has := quoted(s)
	v, ok := value.Parse(has)
	if !ok {
		return api.Token{}, 0
	}
	return api.Token{Kind: api.TokText, Text: v.Text}, len(has)
}

// quoted is what a text has from a "'" that it begins with to the one that ends it; nothing, if one of them isn't there.
func quoted(s string) string {
	if !strings.HasPrefix(s, "'") {
		return ""
	}
	for i := 1; i < len(s); i++ {
		switch s[i] {
		case '\\':
			// What stands behind it ends nothing.
			i++
		case '\'':
			return s[:i+1]
		}
	}
	return ""
}

// sign reads a sign, as first does.
func sign(s string) (api.Token, int) {
	longest := ""
	for _, one := range Signs() {
		if len(one) > len(longest) && strings.HasPrefix(s, one) {
			longest = one
		}
	}
	if longest == "" {
		return api.Token{}, 0
	}
	return api.Token{Kind: api.TokSign, Text: longest}, len(longest)
}
