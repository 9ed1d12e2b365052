package address

import (
	"strconv"
	"strings"

	"moor/api"
	"moor/escape"
	"moor/fault"
	"moor/host"
)

// readFromAuthority reads an authority, and the path behind it.
func (a *Address) readFromAuthority(text string) error {
	ahead, behind := cutAtSlash(text)
	authority, err := readAuthority(ahead, a.Scheme)
	if err != nil {
		return err
	}
	a.Authority = authority
	a.readPath(nil, behind)
	return nil
}

func readAuthority(text, scheme string) (Authority, error) {
	login, place := cutLogin(text)
	user, password, _ := strings.Cut(login, ":")
	hostText, portText := cutPort(place)
	told, err := tellHost(hostText, text, scheme)
	if err != nil {
		return Authority{}, err
	}
	port, err := readPort(portText, scheme)
	if err != nil {
		return Authority{}, err
	}
	return Authority{escape.Text(user, api.User), escape.Text(password, api.User), true, told, port}, nil
}

func cutLogin(authority string) (login, place string) {
	at := strings.LastIndexByte(authority, '@')
	if at < 0 {
		return "", authority
	}
	return authority[:at], authority[at+1:]
}

// cutPort looks for brackets at the beginning alone: a host that has them
// anywhere else is none, wherever it is cut.
func cutPort(place string) (hostText, portText string) {
	brackets := 0
	if strings.HasPrefix(place, "[") {
		brackets = strings.IndexByte(place, ']') + 1
	}
	ahead, portText, _ := strings.Cut(place[brackets:], ":")
	return place[:brackets] + ahead, portText
}

// tellHost takes an empty host only where nothing is beside it: no `@`, no `:`.
func tellHost(text, authority, scheme string) (string, error) {
	if text == "" && authority != "" {
		return "", fault.Fault{Errno: api.ErrHost, Thing: "authority", Text: authority, Within: errNoHost}
	}
	return host.Tell(text, isSpecial(scheme))
}

func readPort(text, scheme string) (int, error) {
	if text == "" {
		return NoPort, nil
	}
	port, err := strconv.ParseUint(text, 10, 16)
	if err != nil {
		return NoPort, fault.Fault{Errno: api.ErrPort, Thing: "port", Text: text, Within: err}
	}
	return portBeside(int(port), scheme), nil
}

// portBeside leaves out a port that goes without saying.
func portBeside(port int, scheme string) int {
	if own, _ := ownPort(scheme); port == own {
		return NoPort
	}
	return port
}
