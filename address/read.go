package address

import (
	"strings"

	"moor/api"
	"moor/escape"
	"moor/fault"
)

// ReadBeside reads a text beside the text of a base; an empty one is none.
func ReadBeside(text, base string) (Address, error) {
	if base == "" {
		return Read(text, nil)
	}
	found, err := Read(base, nil)
	if err != nil {
		return Address{}, fault.Fault{Errno: api.ErrBase, Thing: "base", Text: base, Within: err}
	}
	return Read(text, &found)
}

// Read reads a text beside a base, or without one if that is nil. Its error
// wraps a fault.Fault.
func Read(text string, base *Address) (Address, error) {
	found, err := cutAtMarks(strip(text)).read(base)
	if err != nil {
		return Address{}, Error{text, err}
	}
	return found, nil
}

func (m marks) read(base *Address) (Address, error) {
	if m.scheme != "" {
		return m.readAsNamed(base)
	}
	if base == nil {
		return Address{}, errRelative(errNoBase)
	}
	if base.Path.Opaque {
		return m.readBesideOpaque(*base)
	}
	m.scheme = base.Scheme
	return m.readMarked(base)
}

// readAsNamed: a scheme that is named needs no base, and only the same one, if
// it is special, makes use of it.
func (m marks) readAsNamed(base *Address) (Address, error) {
	if base == nil || base.Scheme != m.scheme || !isSpecial(m.scheme) {
		return m.readMarked(nil)
	}
	return m.readMarked(base)
}

func (m marks) readBesideOpaque(base Address) (Address, error) {
	if !m.isFragmentAlone() {
		return Address{}, errRelative(errOpaqueBase)
	}
	base.Fragment = m.fragment.escaped(api.Fragment)
	return base, nil
}

// readMarked reads what has a scheme by now. The base is nil, if the address
// is not relative.
func (m marks) readMarked(base *Address) (Address, error) {
	found := Address{
		Scheme:    m.scheme,
		Authority: Authority{Port: NoPort},
		Query:     m.query.escaped(querySet(m.scheme)),
		Fragment:  m.fragment.escaped(api.Fragment),
	}
	err := found.readMiddle(evenSlashes(m.scheme, m.middle), base)
	return found, err
}

func (a *Address) readMiddle(middle string, base *Address) error {
	switch {
	case a.Scheme == file:
		return a.readFile(middle, base)
	case base != nil:
		return a.readRelative(middle, *base)
	case isSpecial(a.Scheme):
		return a.readFromAuthority(strings.TrimLeft(middle, "/"))
	}
	return a.readOther(middle)
}

func (a *Address) readOther(middle string) error {
	behind, two := strings.CutPrefix(middle, "//")
	switch {
	case two:
		return a.readFromAuthority(behind)
	case strings.HasPrefix(middle, "/"):
		a.readPath(nil, middle)
	default:
		a.Path = Path{Opaque: true, Text: escapeOpaque(middle)}
	}
	return nil
}

func escapeOpaque(text string) string {
	return strings.ReplaceAll(escape.Text(text, api.Control), " ", "%20")
}

func (a *Address) readRelative(middle string, base Address) error {
	behind, two := strings.CutPrefix(middle, "//")
	switch {
	case two && isSpecial(a.Scheme):
		return a.readFromAuthority(strings.TrimLeft(behind, "/"))
	case two:
		return a.readFromAuthority(behind)
	}
	a.Authority = base.Authority
	if strings.HasPrefix(middle, "/") {
		a.readPath(nil, middle)
	} else {
		a.goOn(middle, base)
	}
	return nil
}

// goOn reads a middle that begins with no SLASH, from where the base ends.
func (a *Address) goOn(middle string, base Address) {
	if middle != "" {
		a.readPath(withoutLast(a.Scheme, base.Path.Segments), middle)
		return
	}
	a.Path = base.Path
	if !a.Query.Has {
		a.Query = base.Query
	}
}
