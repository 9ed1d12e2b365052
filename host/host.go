// Package host: the hosts of addresses, told as they must be.
package host

import (
	"strings"

	"moor/api"
	"moor/escape"
	"moor/fault"
)

// Bytes that a host can't have: they are marks of the address around it, or
// would be lost as it is read.
const (
	forbidden        = "\x00\t\n\r #/:<>?@[\\]^|"
	forbiddenSpecial = forbidden + "%"
)

// Tell tells the host of a scheme that is special, or is not. Its error is a
// fault.Fault with ErrHost, around what was found.
func Tell(text string, special bool) (string, error) {
	told, err := tell(text, special)
	if err != nil {
		return "", fault.Fault{Errno: api.ErrHost, Thing: "host", Text: text, Within: err}
	}
	return told, nil
}

func tell(text string, special bool) (string, error) {
	if strings.HasPrefix(text, "[") {
		return tellBracketed(text[1:])
	}
	if special {
		return tellSpecial(escape.Undo(text))
	}
	return tellPlain(text)
}

func tellBracketed(text string) (string, error) {
	inner, closed := strings.CutSuffix(text, "]")
	if !closed {
		return "", errBracket
	}
	pieces, err := readIP6(inner)
	if err != nil {
		return "", IP6Error{layer{inner, err}}
	}
	return "[" + tellIP6(pieces) + "]", nil
}

func tellPlain(text string) (string, error) {
	for i := 0; i < len(text); i++ {
		if strings.IndexByte(forbidden, text[i]) >= 0 {
			return "", ByteError{i, text[i]}
		}
	}
	return escape.Text(text, api.Control), nil
}

func tellSpecial(text string) (string, error) {
	if text == "" {
		return "", errEmpty
	}
	for i := 0; i < len(text); i++ {
		if strings.IndexByte(forbiddenSpecial, text[i]) >= 0 || escape.Holds(api.Control, text[i]) {
			return "", ByteError{i, text[i]}
		}
	}
	small := strings.ToLower(text)
	if !isNumbersHost(small) {
		return small, nil
	}
	address, err := readIP4(small)
	if err != nil {
		return "", IP4Error{layer{small, err}}
	}
	return tellIP4(address), nil
}
