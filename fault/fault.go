// Package fault: the errors by which the inner packages tell the calls, and
// whoever looks for the cause, what is wrong.
package fault

import (
	"strconv"

	"moor/api"
)

// Fault is the layer that knows the number that a call tells; what was found
// within it says why.
type Fault struct {
	Errno  api.Errno
	Thing  string
	Text   string
	Within error
}

func (f Fault) Error() string { return Say(f.Thing, f.Text, f.Within) }

func (f Fault) Unwrap() error { return f.Within }

// Say tells a layer: the thing, its text, and what is wrong within it.
func Say(thing, text string, within error) string {
	return thing + " " + strconv.Quote(text) + ": " + within.Error()
}
