// Package address: addresses, cut at their marks as they are read, and told as
// they must be.
package address

import (
	"strconv"
	"strings"

	"moor/api"
)

// NoPort is the port of an address that has none.
const NoPort = -1

// Address has all its texts as they are told.
type Address struct {
	Scheme string
	Authority
	Path     Path
	Query    Optional
	Fragment Optional
}

// Authority is what a relative address takes from its base as one.
type Authority struct {
	User     string
	Password string
	HasHost  bool
	Host     string
	Port     int
}

// Path is a text, if it is opaque, and else a list of segments.
type Path struct {
	Opaque   bool
	Text     string
	Segments []string
}

// Optional may be there and yet be empty.
type Optional struct {
	Has  bool
	Text string
}

// Tell tells the address in the one way in which it must be.
func (a Address) Tell() string {
	return a.Scheme + ":" + a.Authority.tell() + a.guard() + a.Path.tell() + a.Query.tell("?") + a.Fragment.tell("#")
}

// Origin tells where the address comes from; of most schemes that is nowhere.
func (a Address) Origin() string {
	if !isSpecial(a.Scheme) || a.Scheme == file {
		return "null"
	}
	return a.Scheme + "://" + a.Authority.tellPlace()
}

// Parts gives the parts one by one, as they are told.
func (a Address) Parts() api.Parts {
	return api.Parts{
		Scheme:      a.Scheme,
		User:        a.User,
		Password:    a.Password,
		HasHost:     a.HasHost,
		Host:        a.Host,
		Port:        a.Port,
		Opaque:      a.Path.Opaque,
		Path:        a.Path.tell(),
		HasQuery:    a.Query.Has,
		Query:       a.Query.Text,
		HasFragment: a.Fragment.Has,
		Fragment:    a.Fragment.Text,
	}
}

// guard stands ahead of a path that begins with two slashes: without it what
// is behind them would be read as a host.
func (a Address) guard() string {
	segments := a.Path.Segments
	if !a.HasHost && len(segments) > 1 && segments[0] == "" {
		return "/."
	}
	return ""
}

func (a Authority) tell() string {
	if !a.HasHost {
		return ""
	}
	return "//" + a.tellLogin() + a.tellPlace()
}

func (a Authority) tellLogin() string {
	switch {
	case a.Password != "":
		return a.User + ":" + a.Password + "@"
	case a.User != "":
		return a.User + "@"
	}
	return ""
}

func (a Authority) tellPlace() string {
	if a.Port == NoPort {
		return a.Host
	}
	return a.Host + ":" + strconv.Itoa(a.Port)
}

func (p Path) tell() string {
	if p.Opaque {
		return p.Text
	}
	var out strings.Builder
	for _, segment := range p.Segments {
		out.WriteString("/")
		out.WriteString(segment)
	}
	return out.String()
}

func (o Optional) tell(mark string) string {
	if !o.Has {
		return ""
	}
	return mark + o.Text
}
