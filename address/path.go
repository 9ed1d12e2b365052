package address

import (
	"slices"
	"strings"

	"moor/api"
	"moor/escape"
)

// readPath reads the path of a text, from the segments with which it begins.
func (a *Address) readPath(begun []string, text string) {
	a.Path = Path{Segments: readSegments(a.Scheme, begun, text)}
}

func readSegments(scheme string, begun []string, text string) []string {
	segments := slices.Clone(begun)
	if text == "" && !isSpecial(scheme) {
		return segments
	}
	parts := strings.Split(strings.TrimPrefix(text, "/"), "/")
	for i, part := range parts {
		dots := dotsOf(part)
		if dots == "" {
			segments = append(segments, tellSegment(scheme, part, len(segments) == 0))
			continue
		}
		if dots == ".." {
			segments = withoutLast(scheme, segments)
		}
		if i == len(parts)-1 {
			segments = append(segments, "")
		}
	}
	return segments
}

// dotsOf gives the one or two dots for which a segment stands, or nothing.
func dotsOf(segment string) string {
	switch strings.ReplaceAll(segment, "%2E", "%2e") {
	case ".", "%2e":
		return "."
	case "..", ".%2e", "%2e.", "%2e%2e":
		return ".."
	}
	return ""
}

// withoutLast leaves a file its drive: there is nothing above it.
func withoutLast(scheme string, segments []string) []string {
	last := len(segments) - 1
	if last < 0 || last == 0 && scheme == file && isToldDrive(segments[0]) {
		return segments
	}
	return segments[:last]
}

func tellSegment(scheme, segment string, first bool) string {
	if first && scheme == file && isDrive(segment) {
		return segment[:1] + ":"
	}
	return escape.Text(segment, api.Path)
}
