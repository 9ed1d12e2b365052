package address

import (
	"strings"

	"moor/api"
)

// file is special, and yet has hosts, paths and bases of its own kind.
const file = "file"

const (
	letters     = "ABCDEFGHIJKLMNOPQRSTUVWXYZabcdefghijklmnopqrstuvwxyz"
	schemeBytes = letters + "0123456789+-."
)

// cutScheme gives the scheme in small letters, or none, and the rest.
func cutScheme(text string) (scheme, rest string) {
	name, rest, found := strings.Cut(text, ":")
	if !found || !isScheme(name) {
		return "", text
	}
	return strings.ToLower(name), rest
}

func isScheme(name string) bool {
	return beginsWithLetter(name) && strings.Trim(name, schemeBytes) == ""
}

func beginsWithLetter(text string) bool {
	return text != "" && strings.IndexByte(letters, text[0]) >= 0
}

// ownPort gives the port that need not be told; NoPort, if the scheme has none.
func ownPort(scheme string) (port int, special bool) {
	switch scheme {
	case "http", "ws":
		return 80, true
	case "https", "wss":
		return 443, true
	case "ftp":
		return 21, true
	case file:
		return NoPort, true
	}
	return NoPort, false
}

func isSpecial(scheme string) bool {
	_, special := ownPort(scheme)
	return special
}

func querySet(scheme string) int {
	if isSpecial(scheme) {
		return api.Special
	}
	return api.Query
}
