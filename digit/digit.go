// Package digit: bytes that are digits, in bases up to 16.
package digit

// None is above the value of every digit, so that a byte that is none fails
// the same comparison as a digit that is too great for its base.
const None = 16

// Value is what the byte counts for as a digit, or None.
func Value(b byte) uint64 {
	switch {
	case '0' <= b && b <= '9':
		return uint64(b - '0')
	case 'A' <= b && b <= 'F':
		return uint64(b-'A') + 10
	case 'a' <= b && b <= 'f':
		return uint64(b-'a') + 10
	}
	return None
}

// All tells whether each byte is a digit of the base; of an empty text, too.
func All(text string, base uint64) bool {
	for i := 0; i < len(text); i++ {
		if Value(text[i]) >= base {
			return false
		}
	}
	return true
}
