package escape

import "moor/api"

// The sets as numbers of 256 bits, a bit for each byte: only as constants can
// each one be made of the ones ahead of it before the program starts.
const (
	below32  = 1<<32 - 1
	above126 = (1<<129 - 1) << 127

	control   = below32 | above126
	fragment  = control | 1<<' ' | 1<<'"' | 1<<'<' | 1<<'>' | 1<<'`'
	query     = control | 1<<' ' | 1<<'"' | 1<<'#' | 1<<'<' | 1<<'>'
	special   = query | 1<<'\''
	path      = query | 1<<'?' | 1<<'^' | 1<<'`' | 1<<'{' | 1<<'}'
	user      = path | 1<<'/' | 1<<':' | 1<<';' | 1<<'=' | 1<<'@' | 1<<'[' | 1<<'\\' | 1<<']' | 1<<'|'
	component = user | 1<<'$' | 1<<'%' | 1<<'&' | 1<<'+' | 1<<','
	pair      = component | 1<<'!' | 1<<'\'' | 1<<'(' | 1<<')' | 1<<'~'
)

const word = 1<<64 - 1

// set has the same bits by word, since no variable is wide enough for them all.
type set [4]uint64

// sets has those that a number names.
var sets = [7]set{
	api.Control:   {control & word, control >> 64 & word, control >> 128 & word, control >> 192},
	api.Fragment:  {fragment & word, fragment >> 64 & word, fragment >> 128 & word, fragment >> 192},
	api.Query:     {query & word, query >> 64 & word, query >> 128 & word, query >> 192},
	api.Special:   {special & word, special >> 64 & word, special >> 128 & word, special >> 192},
	api.Path:      {path & word, path >> 64 & word, path >> 128 & word, path >> 192},
	api.User:      {user & word, user >> 64 & word, user >> 128 & word, user >> 192},
	api.Component: {component & word, component >> 64 & word, component >> 128 & word, component >> 192},
}

// pairSet stands by itself: no number names it.
var pairSet = set{pair & word, pair >> 64 & word, pair >> 128 & word, pair >> 192}

// Holds tells whether the byte is one of the set of that number.
func Holds(number int, b byte) bool { return setOf(number).holds(b) }

// setOf gives a set that holds nothing, if the number is none of the seven.
func setOf(number int) set {
	if number < 0 || number >= len(sets) {
		return set{}
	}
	return sets[number]
}

func (s set) holds(b byte) bool { return s[b/64]>>(b%64)&1 == 1 }
