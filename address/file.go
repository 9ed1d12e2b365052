package address

import (
	"strings"

	"moor/host"
)

// readFile: the base is nil, or one of a file too.
func (a *Address) readFile(middle string, base *Address) error {
	a.HasHost = true
	behind, two := strings.CutPrefix(middle, "//")
	switch {
	case two:
		return a.readFileHost(behind)
	case base == nil:
		a.readPath(nil, middle)
	default:
		a.Host = base.Host
		a.readFileBeside(middle, *base)
	}
	return nil
}

func (a *Address) readFileHost(text string) error {
	ahead, behind := cutAtSlash(text)
	if isDrive(ahead) {
		a.readPath(nil, text)
		return nil
	}
	told, err := tellFileHost(ahead)
	if err != nil {
		return err
	}
	a.Host = told
	a.readPath(nil, behind)
	return nil
}

// tellFileHost: a file may be on no host but the one that reads it.
func tellFileHost(text string) (string, error) {
	if text == "" {
		return "", nil
	}
	told, err := host.Tell(text, true)
	if told == "localhost" {
		return "", nil
	}
	return told, err
}

// readFileBeside keeps the base's drive, unless another one is named.
func (a *Address) readFileBeside(middle string, base Address) {
	behind, slash := strings.CutPrefix(middle, "/")
	switch {
	case beginsWithDriveLetter(behind):
		a.readPath(nil, middle)
	case slash:
		a.readPath(base.drive(), middle)
	default:
		a.goOn(middle, base)
	}
}

// drive is the path as far as its drive goes.
func (a Address) drive() []string {
	segments := a.Path.Segments
	if len(segments) > 0 && isToldDrive(segments[0]) {
		return segments[:1]
	}
	return nil
}

// beginsWithDriveLetter needs the middle alone: where that ends, so does the
// rest, or it goes on with a `?` or `#`.
func beginsWithDriveLetter(middle string) bool {
	ahead, _ := cutAtSlash(middle)
	return isDrive(ahead)
}

func isDrive(text string) bool {
	return len(text) == 2 && beginsWithLetter(text) && (text[1] == ':' || text[1] == '|')
}

func isToldDrive(segment string) bool {
	return isDrive(segment) && segment[1] == ':'
}
