// Package escape: bytes told as `%` and two HEX, and back.
package escape

import (
	"strings"

	"moor/digit"
)

const capitals = "0123456789ABCDEF"

// Text escapes the bytes of the set of that number.
func Text(text string, number int) string { return setOf(number).escape(text) }

// Pair escapes what may not stand as it is in a name or a value of a query.
func Pair(text string) string { return pairSet.escape(text) }

func (s set) escape(text string) string {
	var out strings.Builder
	for i := 0; i < len(text); i++ {
		b := text[i]
		if !s.holds(b) {
			out.WriteByte(b)
			continue
		}
		out.WriteByte('%')
		out.WriteByte(capitals[b>>4])
		out.WriteByte(capitals[b&15])
	}
	return out.String()
}

// Undo makes a byte of each escape. What it made is not looked at again, so
// that an escaped `%` begins no escape.
func Undo(text string) string {
	var out strings.Builder
	for {
		ahead, behind, found := strings.Cut(text, "%")
		out.WriteString(ahead)
		if !found {
			return out.String()
		}
		if startsWithTwoHex(behind) {
			out.WriteByte(byte(digit.Value(behind[0])<<4 | digit.Value(behind[1])))
			behind = behind[2:]
		} else {
			out.WriteByte('%')
		}
		text = behind
	}
}

func startsWithTwoHex(text string) bool {
	return len(text) >= 2 && digit.All(text[:2], 16)
}
