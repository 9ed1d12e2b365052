package address

import (
	"errors"

	"moor/api"
	"moor/fault"
)

var (
	errNoBase     = errors.New("no base")
	errOpaqueBase = errors.New("the base's path is opaque")
	errNoHost     = errors.New("no host")

	errNoPart    = errors.New("none of the eight")
	errNoScheme  = errors.New("no scheme")
	errOtherKind = errors.New("of another kind")
	errBareHost  = errors.New("no host to stand beside")
	errBeside    = errors.New("a user, a password or a port stands beside it")
	errOpaque    = errors.New("the path is opaque")
)

// Error is a text that is no address.
type Error struct {
	Text   string
	Within error
}

func (e Error) Error() string { return fault.Say("address", e.Text, e.Within) }

func (e Error) Unwrap() error { return e.Within }

func errRelative(within error) error {
	return fault.Fault{Errno: api.ErrRelative, Thing: "scheme", Within: within}
}

func errPart(thing, value string, within error) error {
	return fault.Fault{Errno: api.ErrPart, Thing: thing, Text: value, Within: within}
}
