package address

import (
	"strconv"
	"strings"

	"moor/api"
	"moor/escape"
	"moor/host"
)

// With gives the address with another part. Its error wraps a fault.Fault.
func (a Address) With(part int, value string) (Address, error) {
	changed := a
	if err := changed.set(part, withoutBreaks(value)); err != nil {
		return Address{}, Error{a.Tell(), err}
	}
	return changed, nil
}

func (a *Address) set(part int, value string) error {
	switch part {
	case api.PartScheme:
		return a.setScheme(value)
	case api.PartUser, api.PartPassword, api.PartPort:
		return a.setBesideHost(part, value)
	case api.PartHost:
		return a.setHost(value)
	case api.PartPath:
		return a.setPath(value)
	case api.PartQuery:
		a.Query = behindMark(value, "?").escaped(querySet(a.Scheme))
	case api.PartFragment:
		a.Fragment = behindMark(value, "#").escaped(api.Fragment)
	default:
		return errPart("part", strconv.Itoa(part), errNoPart)
	}
	return nil
}

// setScheme keeps to the kind of the scheme that was: by that all else was
// read.
func (a *Address) setScheme(value string) error {
	// With a `:` behind it, a value that has none is cut as one that has.
	scheme, _ := cutScheme(value + ":")
	if scheme == "" {
		return errPart("scheme", value, errNoScheme)
	}
	if isSpecial(scheme) != isSpecial(a.Scheme) || (scheme == file) != (a.Scheme == file) {
		return errPart("scheme", value, errOtherKind)
	}
	a.Scheme = scheme
	a.Port = portBeside(a.Port, scheme)
	return nil
}

func (a *Address) setBesideHost(part int, value string) error {
	if a.Host == "" || a.Scheme == file {
		return errPart("part", strconv.Itoa(part), errBareHost)
	}
	switch part {
	case api.PartUser:
		a.User = escape.Text(value, api.User)
	case api.PartPassword:
		a.Password = escape.Text(value, api.User)
	default:
		return a.setPort(value)
	}
	return nil
}

func (a *Address) setPort(value string) error {
	port, err := readPort(value, a.Scheme)
	if err != nil {
		return err
	}
	a.Port = port
	return nil
}

func (a *Address) setHost(value string) error {
	if a.Path.Opaque {
		return errPart("host", value, errOpaque)
	}
	if value == "" && !isSpecial(a.Scheme) && a.hasBesideHost() {
		return errPart("host", value, errBeside)
	}
	told, err := tellHostAlone(value, a.Scheme)
	if err != nil {
		return err
	}
	a.HasHost, a.Host = true, told
	return nil
}

func (a Authority) hasBesideHost() bool {
	return a.User != "" || a.Password != "" || a.Port != NoPort
}

func tellHostAlone(text, scheme string) (string, error) {
	if scheme == file {
		return tellFileHost(text)
	}
	return host.Tell(text, isSpecial(scheme))
}

// setPath leaves an address without a host a path: without either its scheme
// would be followed by nothing, and be read as opaque.
func (a *Address) setPath(value string) error {
	if a.Path.Opaque {
		return errPart("path", value, errOpaque)
	}
	if !a.HasHost && value == "" {
		return errPart("path", value, errNoHost)
	}
	a.readPath(nil, evenSlashes(a.Scheme, value))
	return nil
}

// behindMark: a value may have its mark ahead of it; a mark alone is of an
// empty text, and nothing at all of none.
func behindMark(value, mark string) Optional {
	return Optional{value != "", strings.TrimPrefix(value, mark)}
}
