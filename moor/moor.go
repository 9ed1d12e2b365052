// Package moor: addresses of things in a net: see DOC.md.
package moor

import (
	"errors"

	"moor/address"
	"moor/api"
	"moor/escape"
	"moor/fault"
	"moor/fields"
	"moor/host"
)

// Escape escapes the bytes of a set (P3).
func Escape(text string, set int) string { return escape.Text(text, set) }

// Unescape takes escapes away (P3).
func Unescape(text string) string { return escape.Undo(text) }

// Host tells a host as it must be (P4).
func Host(text string, special bool) (string, api.Errno) {
	if isLong(text) {
		return "", api.ErrLong
	}
	told, err := host.Tell(text, special)
	return told, errnoOf(err)
}

// Parse tells an address as it must be (P5).
func Parse(text string, base string) (string, api.Errno) {
	if isLong(text) || isLong(base) {
		return "", api.ErrLong
	}
	return tell(address.ReadBeside(text, base))
}

// Split takes an address apart (P6).
func Split(text string) (api.Parts, api.Errno) {
	found, errno := readAlone(text)
	if errno != api.OK {
		return api.Parts{}, errno
	}
	return found.Parts(), api.OK
}

// Origin tells where it comes from (P6).
func Origin(text string) (string, api.Errno) {
	found, errno := readAlone(text)
	if errno != api.OK {
		return "", errno
	}
	return found.Origin(), api.OK
}

// With gives an address another part (P7).
func With(text string, part int, value string) (string, api.Errno) {
	if isLong(value) {
		return "", api.ErrLong
	}
	found, errno := readAlone(text)
	if errno != api.OK {
		return "", errno
	}
	return tell(found.With(part, value))
}

// Pairs takes a query apart (P8).
func Pairs(query string) ([]api.Pair, api.Errno) {
	if isLong(query) {
		return nil, api.ErrLong
	}
	return fields.Read(query), api.OK
}

// Join makes a query of pairs (P8).
func Join(pairs []api.Pair) (string, api.Errno) {
	if areLong(pairs) {
		return "", api.ErrLong
	}
	return fields.Tell(pairs), api.OK
}

func isLong(text string) bool { return len(text) > api.MaxText }

// areLong looks at the sum after each pair: of a list that goes on and on it
// would wrap round.
func areLong(pairs []api.Pair) bool {
	sum := 0
	for _, pair := range pairs {
		sum += len(pair.Name) + len(pair.Value)
		if sum > api.MaxText {
			return true
		}
	}
	return false
}

func tell(found address.Address, err error) (string, api.Errno) {
	if err != nil {
		return "", errnoOf(err)
	}
	return found.Tell(), api.OK
}

// readAlone reads an address without a base.
func readAlone(text string) (address.Address, api.Errno) {
	if isLong(text) {
		return address.Address{}, api.ErrLong
	}
	found, err := address.Read(text, nil)
	return found, errnoOf(err)
}

// errnoOf asks for the outermost number: a layer that has one of its own speaks
// for all that is within it.
func errnoOf(err error) api.Errno {
	var found fault.Fault
	if errors.As(err, &found) {
		return found.Errno
	}
	return api.OK
}
