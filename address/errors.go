package address

import (
	"errors"

	"moor/api"
	"moor/fault"
)

var (
	errNoBase = errors.New("no base")
	errOpaque = errors.New("the base's path is opaque")
	errNoHost = errors.New("no host")
)

// Error is a text that is no address.
type Error struct {
	Text   string
	Within error
}

func (e Error) Error() string { return fault.Say("address", e.Text, e.Within) }

func (e Error) Unwrap() error { return e.Within }

func errRelative(within error) error {
	return fault.Fault{Errno: api.ErrRelative, Thing: "scheme", Within: within}
}
