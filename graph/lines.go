package graph

import (
	"strings"

	"hedgerow/api"
	"hedgerow/value"
)

// line is words with one blank between.
func line(words ...string) string { return strings.Join(words, " ") }

// Lines are all that is seen.
func (v *View) Lines() []string {
	var lines []string
	for _, key := range v.Nodes() {
		words := []string{"node", key}
		lines = append(lines, line(append(words, v.Labels(key)...)...))
		lines = append(lines, v.partLines(Node(key), "prop", key)...)
	}
	for _, l := range v.Links() {
		lines = append(lines, line("edge", l.From, l.Type, l.To))
		lines = append(lines, v.partLines(Elem(l), "trait", l.From, l.Type, l.To)...)
	}
	return lines
}

// partLines are those of a node's properties, or an edge's traits: each begins with the same words.
func (v *View) partLines(whole api.Elem, first ...string) []string {
	var lines []string
	begin := line(first...)
	for _, part := range v.seen().parts[whole] {
		words := []string{begin, part.D}
		for _, x := range v.Values(part) {
			words = append(words, value.String(x))
		}
		lines = append(lines, line(words...))
	}
	return lines
}
