package address

import (
	"strings"

	"moor/escape"
)

// marks is a text that is cut at its marks; nothing of it is escaped yet.
type marks struct {
	scheme   string // in small letters; empty: none
	middle   string
	query    Optional
	fragment Optional
}

func cutAtMarks(text string) marks {
	scheme, rest := cutScheme(text)
	ahead, fragment, hasFragment := strings.Cut(rest, "#")
	middle, query, hasQuery := strings.Cut(ahead, "?")
	return marks{scheme, middle, Optional{hasQuery, query}, Optional{hasFragment, fragment}}
}

// isFragmentAlone: of the rest, which begins with `#`.
func (m marks) isFragmentAlone() bool {
	return m.middle == "" && !m.query.Has && m.fragment.Has
}

// strip takes away what is no byte of an address, but came along as it was
// written down.
func strip(text string) string {
	return withoutBreaks(strings.TrimFunc(text, func(r rune) bool { return r < 33 }))
}

func withoutBreaks(text string) string {
	for _, mark := range [...]string{"\t", "\n", "\r"} {
		text = strings.ReplaceAll(text, mark, "")
	}
	return text
}

// evenSlashes writes each SLASH as `/`, so that all else need look for that
// one alone.
func evenSlashes(scheme, text string) string {
	if isSpecial(scheme) {
		return strings.ReplaceAll(text, "\\", "/")
	}
	return text
}

// cutAtSlash leaves the SLASH with what is behind it: that is a path, and one
// of nothing is another than one of a SLASH alone.
func cutAtSlash(text string) (ahead, behind string) {
	place := strings.IndexByte(text, '/')
	if place < 0 {
		return text, ""
	}
	return text[:place], text[place:]
}

func (o Optional) escaped(set int) Optional {
	return Optional{o.Has, escape.Text(o.Text, set)}
}
