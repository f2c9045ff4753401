// Package tokens is what the readers of expressions and of queries share: tokens that are read in order, and tokens that are made.
package tokens

import (
	"slices"

	"hedgerow/api"
	"hedgerow/lex"
	"hedgerow/value"
)

// Name is a name's token.
func Name(s string) api.Token { return api.Token{Kind: api.TokName, Text: s} }

// Mark is a word's token, or a sign's.
func Mark(s string) api.Token {
	if value.Name(s) {
		return api.Token{Kind: api.TokWord, Text: s}
	}
	return api.Token{Kind: api.TokSign, Text: s}
}

// IsName asks whether a text is a name, and no word of the language.
func IsName(s string) bool { return may(Name(s)) }

// may asks whether a token may be: just then it has a text.
func may(t api.Token) bool {
	_, ok := lex.Text([]api.Token{t})
	return ok
}

// Reader reads tokens from the first one on.
// It keeps its first fault; behind that it takes no token, so that all that reads with it ends, and what is read means nothing.
type Reader struct {
	Left []api.Token // those that aren't read yet
	Err  api.Errno   // the fault
}

// Fail keeps a fault, if it is the first one.
func (r *Reader) Fail(err api.Errno) {
	if r.Err == api.OK {
		r.Err = err
	}
}

// next is the token that stands there, and false, if there is none, or there was a fault.
func (r *Reader) next() (api.Token, bool) {
	if r.Err != api.OK || len(r.Left) == 0 {
		return api.Token{}, false
	}
	return r.Left[0], true
}

// Takes reads a word, or a sign, if it stands there.
func (r *Reader) Takes(text string) bool {
	t, ok := r.next()
	if !ok || !lex.Is(t, text) {
		return false
	}
	r.Left = r.Left[1:]
	return true
}

// Any reads a word, or a sign, if one of these stands there, and tells it; else nothing.
func (r *Reader) Any(texts ...string) string {
	for _, text := range texts {
		if r.Takes(text) {
			return text
		}
	}
	return ""
}

// Needs reads words, or signs, that must stand there, one behind the other.
func (r *Reader) Needs(texts ...string) {
	for _, text := range texts {
		if !r.Takes(text) {
			r.Fail(api.ErrSyntax)
		}
	}
}

// Has asks whether a token of one of the kinds stands there.
func (r *Reader) Has(kinds ...int) bool {
	t, ok := r.next()
	return ok && slices.Contains(kinds, t.Kind) && may(t)
}

// One reads a token of one of the kinds, which must stand there.
func (r *Reader) One(kinds ...int) api.Token {
	if !r.Has(kinds...) {
		r.Fail(api.ErrSyntax)
		return api.Token{}
	}
	t := r.Left[0]
	r.Left = r.Left[1:]
	return t
}

// Name reads a name, which must stand there.
func (r *Reader) Name() string { return r.One(api.TokName).Text }
