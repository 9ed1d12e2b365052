// Package escape: bytes told as `%` and two HEX, and back.
package escape

import (
	"strings"

	"moor/digit"
)

const capitals = "0123456789ABCDEF"

// Text escapes the bytes of the set.
func Text(text string, set int) string {
	var out strings.Builder
	for i := 0; i < len(text); i++ {
		b := text[i]
		if !Holds(set, b) {
			out.WriteByte(b)
			continue
		}
		out.WriteByte('%')
		out.WriteByte(capitals[b>>4])
		out.WriteByte(capitals[b&15])
	}
	return out.String()
}

// Undo makes a byte of each escape. What it made is not looked at again, so
// that an escaped `%` begins no escape.
func Undo(text string) string {
	var out strings.Builder
	for {
		ahead, behind, found := strings.Cut(text, "%")
		out.WriteString(ahead)
		if !found {
			return out.String()
		}
		if startsWithTwoHex(behind) {
			out.WriteByte(byte(digit.Value(behind[0])<<4 | digit.Value(behind[1])))
			behind = behind[2:]
		} else {
			out.WriteByte('%')
		}
		text = behind
	}
}

func startsWithTwoHex(text string) bool {
	return len(text) >= 2 && digit.All(text[:2], 16)
}
