package host

import (
	"errors"
	"strconv"

	"moor/fault"
)

var (
	errEmpty    = errors.New("empty")
	errBracket  = errors.New("no ] at the end")
	errCount    = errors.New("too many or too few numbers")
	errLength   = errors.New("not of one to four digits")
	errNought   = errors.New("a nought ahead")
	errTooGreat = errors.New("too great")
)

// layer is what all errors with something within them have.
type layer struct {
	Text   string
	Within error
}

func (l layer) Unwrap() error { return l.Within }

// IP4Error is a number's host that is no IP4.
type IP4Error struct{ layer }

func (e IP4Error) Error() string { return fault.Say("IP4", e.Text, e.Within) }

// IP6Error is a text between brackets that is no IP6.
type IP6Error struct{ layer }

func (e IP6Error) Error() string { return fault.Say("IP6", e.Text, e.Within) }

// PieceError is a piece of an IP6 that is none.
type PieceError struct{ layer }

func (e PieceError) Error() string { return fault.Say("piece", e.Text, e.Within) }

// NumberError is a number of an IP4, or at the end of an IP6, that is none.
type NumberError struct{ layer }

func (e NumberError) Error() string { return fault.Say("number", e.Text, e.Within) }

// ByteError is a byte that may not stand at its place.
type ByteError struct {
	Place int
	Byte  byte
}

func (e ByteError) Error() string {
	return "byte " + strconv.Itoa(int(e.Byte)) + " at place " + strconv.Itoa(e.Place)
}
