package host

import (
	"strings"

	"moor/digit"
)

// readNumber reads a number of an IP4.
func readNumber(text string, most uint64) (uint64, error) {
	n, err := readAnyBase(text, most)
	if err != nil {
		return 0, NumberError{layer{text, err}}
	}
	return n, nil
}

func readAnyBase(text string, most uint64) (uint64, error) {
	switch {
	case text == "":
		return 0, errEmpty
	case strings.HasPrefix(text, "0x"):
		return readDigits(text[2:], 16, most)
	case text[0] == '0' && len(text) > 1:
		return readDigits(text[1:], 8, most)
	}
	return readDigits(text, 10, most)
}

// readDecimal reads one of the numbers with dots at the end of an IP6.
func readDecimal(text string) (uint64, error) {
	n, err := readPlainDecimal(text)
	if err != nil {
		return 0, NumberError{layer{text, err}}
	}
	return n, nil
}

// readPlainDecimal takes no nought ahead, since that could be meant as another
// base.
func readPlainDecimal(text string) (uint64, error) {
	switch {
	case text == "":
		return 0, errEmpty
	case text[0] == '0' && len(text) > 1:
		return 0, errNought
	}
	return readDigits(text, 10, 255)
}

// readDigits stops as soon as the number is above the most, which is below
// 1<<32: so it can't wrap round, however many digits there are.
func readDigits(text string, base, most uint64) (uint64, error) {
	n := uint64(0)
	for i := 0; i < len(text); i++ {
		d := digit.Value(text[i])
		if d >= base {
			return 0, ByteError{i, text[i]}
		}
		n = n*base + d
		if n > most {
			return 0, errTooGreat
		}
	}
	return n, nil
}
