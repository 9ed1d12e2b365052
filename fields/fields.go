// Package fields: names and their values, read from a query and told as one.
package fields

import (
	"strings"

	"moor/api"
	"moor/escape"
)

// Read gives the pairs of a query; between two `&` there may be none.
func Read(query string) []api.Pair {
	var found []api.Pair
	for _, piece := range strings.Split(query, "&") {
		if piece != "" {
			found = append(found, readPair(piece))
		}
	}
	return found
}

func readPair(piece string) api.Pair {
	name, value, _ := strings.Cut(piece, "=")
	return api.Pair{Name: readText(name), Value: readText(value)}
}

// readText unescapes last: a `+` that was escaped is no blank.
func readText(text string) string {
	return escape.Undo(strings.ReplaceAll(text, "+", " "))
}

// Tell tells the pairs as a query.
func Tell(pairs []api.Pair) string {
	told := make([]string, len(pairs))
	for i, pair := range pairs {
		told[i] = tellText(pair.Name) + "=" + tellText(pair.Value)
	}
	return strings.Join(told, "&")
}

// tellText: once a text is escaped, `%20` is of a blank alone.
func tellText(text string) string {
	return strings.ReplaceAll(escape.Pair(text), "%20", "+")
}
