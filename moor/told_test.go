package moor

import (
	"math/rand"
	"strconv"
	"strings"
	"testing"

	"moor/api"
)

// bases has one of each kind that a told address could be taken for relative
// beside.
var bases = []string{
	"http://h/a", "http://u:p@h:81/a/b?q#f", "https://h/", "ws://h/", "wss://h/", "ftp://h/a",
	"file:///", "file:///C:/a/b", "file:///C:", "file://h/a?q", "file://h/C:/",
	"x:a", "x:", "x:/a", "x:/.//p", "x://", "x://h", "x://u@h:1/a/b?q#f", "y:b#f",
}

// tellParts puts the parts of Split together, by the words of the document.
func tellParts(p api.Parts) string {
	told := p.Scheme + ":"
	if p.HasHost {
		told += "//"
		if p.User != "" || p.Password != "" {
			told += p.User
			if p.Password != "" {
				told += ":" + p.Password
			}
			told += "@"
		}
		told += p.Host
		if p.Port != -1 {
			told += ":" + strconv.Itoa(p.Port)
		}
	} else if !p.Opaque && strings.HasPrefix(p.Path, "//") {
		told += "/."
	}
	told += p.Path
	if p.HasQuery {
		told += "?" + p.Query
	}
	if p.HasFragment {
		told += "#" + p.Fragment
	}
	return told
}

func checkTold(t *testing.T, told string) {
	t.Helper()
	if len(told) > api.MaxText {
		return
	}
	for _, base := range append([]string{"", told}, bases...) {
		if again, errno := Parse(told, base); again != told || errno != api.OK {
			t.Errorf("Parse(%q, %q) = %q, %d", told, base, again, errno)
		}
	}
	parts, errno := Split(told)
	if errno != api.OK || tellParts(parts) != told {
		t.Errorf("Split(%q) = %+v, %d", told, parts, errno)
	}
	for part, value := range partsOf(parts) {
		if again, errno := With(told, part, value); again != told || errno != api.OK {
			t.Errorf("With(%q, %d, %q) = %q, %d", told, part, value, again, errno)
		}
	}
}

// partsOf has the parts that an address has and that can be given to it again.
func partsOf(p api.Parts) map[int]string {
	parts := map[int]string{api.PartScheme: p.Scheme}
	if !p.Opaque {
		parts[api.PartPath] = p.Path
	}
	if p.HasHost {
		parts[api.PartHost] = p.Host
	}
	if p.User != "" {
		parts[api.PartUser] = p.User
	}
	if p.Password != "" {
		parts[api.PartPassword] = p.Password
	}
	if p.Port != -1 {
		parts[api.PartPort] = strconv.Itoa(p.Port)
	}
	return parts
}

func TestP9ToldIsReadAsItself(t *testing.T) {
	for _, told := range []string{
		"http://h/", "http://u:p@h:81/a//b?q#f", "http://:p@h/", "http://127.0.0.1/", "http://[::1]:81/", "https://h:80/?#", "ws://h/", "ftp://h/C|/",
		"file:///", "file:////", "file:///C:", "file:///C:/", "file:////C:/a", "file://h/C:/a", "file:///a/C|", "file://h//a",
		"x:", "x:?", "x:a%20b", "x:a/../b", "x:/", "x:/.//", "x:/.//p", "x:/a//p", "x://", "x:///", "x:////p", "x://h", "x://h/", "x://h//", "x://u@H:80?q", "x://[::]",
	} {
		if again, errno := Parse(told, ""); again != told || errno != api.OK {
			t.Errorf("%q is not told so: %q, %d", told, again, errno)
		}
		checkTold(t, told)
	}
}

func TestP9OfWhatIsMade(t *testing.T) {
	source := rand.New(rand.NewSource(3))
	seen := 0
	for range 30000 {
		text, base := randomAddress(source), ""
		if source.Intn(2) == 0 {
			base = bases[source.Intn(len(bases))]
		}
		told, errno := Parse(text, base)
		if errno != api.OK {
			continue
		}
		seen++
		checkTold(t, told)
		if t.Failed() {
			t.Fatalf("it was told of %q beside %q", text, base)
		}
	}
	if seen < 5000 {
		t.Errorf("only %d were any", seen)
	}
}

func TestP9AtTheBound(t *testing.T) {
	for _, told := range []string{"http://h/" + strings.Repeat("a", api.MaxText-9), "x:" + strings.Repeat("%20", (api.MaxText-2)/3), "x:/." + strings.Repeat("/", api.MaxText-4), "file:///C:" + strings.Repeat("/", api.MaxText-10)} {
		if len(told) < api.MaxText-3 {
			t.Errorf("%d bytes only", len(told))
		}
		checkTold(t, told)
	}
}

func randomAddress(source *rand.Rand) string {
	starts := []string{"", "", "http:", "https://", "file:", "file:///", "file://", "x:", "x:/", "x://", "//", "/"}
	pieces := []string{
		"a", "h", "B", "localhost", "1", "80", "0x1", "[::1]", "u@", ":p@", ":81", ":", "/", "/", "/", "\\", "//", "?", "#", ".", "..", "/..", "/.", "%2e", "%2E%2e", "%", "%41", "%5B",
		"C|", "D:", "/C|/", " ", "\t", "\x00", "\x7f", "\xff", "'", "\"", "<", "`", "{", "|", "^", "[", "]", ";", "=", "@", "~",
	}
	var out strings.Builder
	out.WriteString(starts[source.Intn(len(starts))])
	for range source.Intn(10) {
		out.WriteString(pieces[source.Intn(len(pieces))])
	}
	return out.String()
}
