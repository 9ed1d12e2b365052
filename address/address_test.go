package address

import (
	"errors"
	"math/rand"
	"reflect"
	"strconv"
	"strings"
	"testing"

	"moor/api"
	"moor/fault"
	"moor/host"
)

func TestFaultsAreWrappedToTheBottom(t *testing.T) {
	for _, c := range []struct {
		text, base string
		errno      api.Errno
		want       string
	}{
		{"a", "", api.ErrRelative, `address "a": scheme "": no base`},
		{"a", "x:y", api.ErrRelative, `address "a": scheme "": the base's path is opaque`},
		{"http://", "", api.ErrHost, `address "http://": host "": empty`},
		{"http://u@/", "", api.ErrHost, `address "http://u@/": authority "u@": no host`},
		{"x://:1", "", api.ErrHost, `address "x://:1": authority ":1": no host`},
		{"x://[::g]:y", "", api.ErrHost, `address "x://[::g]:y": host "[::g]": IP6 "::g": piece "g": byte 103 at place 0`},
		{"file://1.256.1", "http://h", api.ErrHost, `address "file://1.256.1": host "1.256.1": IP4 "1.256.1": number "256": too great`},
		{"//h:-1", "http://h", api.ErrPort, `address "//h:-1": port "-1": strconv.ParseUint: parsing "-1": invalid syntax`},
		{"x://h:65536", "", api.ErrPort, `address "x://h:65536": port "65536": strconv.ParseUint: parsing "65536": value out of range`},
		{"x:y", "http://a b", api.ErrBase, `base "http://a b": address "http://a b": host "a b": byte 32 at place 1`},
	} {
		found, err := ReadBeside(c.text, c.base)
		if err == nil || !reflect.DeepEqual(found, Address{}) {
			t.Errorf("ReadBeside(%q, %q) = %+v, %v", c.text, c.base, found, err)
			continue
		}
		if err.Error() != c.want {
			t.Errorf("ReadBeside(%q, %q): %s, want %s", c.text, c.base, err, c.want)
		}
		var outer fault.Fault
		if !errors.As(err, &outer) || outer.Errno != c.errno {
			t.Errorf("ReadBeside(%q, %q): %v, want number %d", c.text, c.base, outer, c.errno)
		}
	}
}

func TestFaultsOfWithAreWrappedToTheBottom(t *testing.T) {
	for _, c := range []struct {
		text  string
		part  int
		value string
		errno api.Errno
		want  string
	}{
		{"x:y", 9, "a", api.ErrPart, `address "x:y": part "9": none of the eight`},
		{"x:y", api.PartScheme, "1:2", api.ErrPart, `address "x:y": scheme "1:2": no scheme`},
		{"x:y", api.PartScheme, "http", api.ErrPart, `address "x:y": scheme "http": of another kind`},
		{"http://H", api.PartScheme, "file", api.ErrPart, `address "http://h/": scheme "file": of another kind`},
		{"file:", api.PartPassword, "a", api.ErrPart, `address "file:///": part "3": no host to stand beside`},
		{"x:y", api.PartHost, "a", api.ErrPart, `address "x:y": host "a": the path is opaque`},
		{"x://u@h", api.PartHost, "\t", api.ErrPart, `address "x://u@h": host "": a user, a password or a port stands beside it`},
		{"http://h", api.PartHost, "", api.ErrHost, `address "http://h/": host "": empty`},
		{"x://h", api.PartHost, "[::g]", api.ErrHost, `address "x://h": host "[::g]": IP6 "::g": piece "g": byte 103 at place 0`},
		{"file://h", api.PartHost, "1.256.1", api.ErrHost, `address "file://h/": host "1.256.1": IP4 "1.256.1": number "256": too great`},
		{"x://h", api.PartPort, "-1", api.ErrPort, `address "x://h": port "-1": strconv.ParseUint: parsing "-1": invalid syntax`},
		{"x:y", api.PartPath, "a", api.ErrPart, `address "x:y": path "a": the path is opaque`},
		{"x:/y", api.PartPath, "", api.ErrPart, `address "x:/y": path "": no host`},
	} {
		was, err := Read(c.text, nil)
		if err != nil {
			t.Fatal(err)
		}
		found, err := was.With(c.part, c.value)
		var outer fault.Fault
		if !reflect.DeepEqual(found, Address{}) || !errors.As(err, &outer) || outer.Errno != c.errno || err.Error() != c.want {
			t.Errorf("%q with %d, %q: %+v, %v, want %s", c.text, c.part, c.value, found, err, c.want)
		}
	}
}

func TestWithLeavesTheAddress(t *testing.T) {
	for _, text := range []string{"http://u:p@h:81/a/b/c?q#f", "file:///C:/a/b?q", "x:/a/b", "x:y?q#f", "x://h"} {
		was, err := Read(text, nil)
		if err != nil {
			t.Fatal(err)
		}
		for part := range 10 {
			for _, value := range []string{"", "y", "ftp", "1", "/d/../e", "a b"} {
				was.With(part, value)
				if was.Tell() != text {
					t.Fatalf("%q with %d, %q: it is %q now", text, part, value, was.Tell())
				}
			}
		}
	}
}

func TestLayersAreFoundByTheirTypes(t *testing.T) {
	_, err := ReadBeside("a", "http://[::1.2.3.4x]")
	var base fault.Fault
	var text Error
	var inner host.ByteError
	if !errors.As(err, &base) || base.Errno != api.ErrBase || !errors.As(err, &text) || text.Text != "http://[::1.2.3.4x]" || !errors.As(err, &inner) || inner.Byte != 'x' {
		t.Errorf("of a base: %v", err)
	}
	_, err = Read("http://h:70000", nil)
	var number *strconv.NumError
	if !errors.As(err, &number) || !errors.Is(err, strconv.ErrRange) {
		t.Errorf("of a port: %v", err)
	}
	_, err = Read("a", nil)
	if !errors.Is(err, errNoBase) || errors.Is(err, errOpaqueBase) {
		t.Errorf("of a relative one: %v", err)
	}
}

func TestCutAtMarks(t *testing.T) {
	for text, want := range map[string]marks{
		"":                {},
		"A:b":             {scheme: "a", middle: "b"},
		"a:b:c?d:e?f#g?#": {"a", "b:c", Optional{true, "d:e?f"}, Optional{true, "g?#"}},
		"b?c":             {middle: "b", query: Optional{true, "c"}},
		"#":               {fragment: Optional{Has: true}},
		"a#b?c":           {middle: "a", fragment: Optional{true, "b?c"}},
		"?a:b":            {query: Optional{true, "a:b"}},
	} {
		if got := cutAtMarks(text); got != want {
			t.Errorf("cutAtMarks(%q) = %+v, want %+v", text, got, want)
		}
	}
}

func TestABaseIsReadAgainAndAgain(t *testing.T) {
	for _, text := range []string{"http://u:p@h:81/a/b/c?q#f", "file:///C:/a/b?q", "x:/a/b", "x:y?q#f"} {
		base, err := Read(text, nil)
		if err != nil {
			t.Fatal(err)
		}
		first := base.Tell()
		for _, beside := range []string{"d", "../d/e/f", "/d", "", "#g", "..", "//i", "?r", "/D|"} {
			one, errOne := Read(beside, &base)
			two, errTwo := ReadBeside(beside, text)
			if (errOne == nil) != (errTwo == nil) || one.Tell() != two.Tell() || base.Tell() != first {
				t.Errorf("%q beside %q: %q, once more %q; the base is %q now", beside, text, two.Tell(), one.Tell(), base.Tell())
			}
		}
	}
}

func TestDriveLetters(t *testing.T) {
	for middle, want := range map[string]bool{
		"C:": true, "z|": true, "C|/": true, "C:/a": true, "A:/..": true,
		"": false, "C": false, "/C:": false, "C:a": false, "CC:": false, "1:": false, ":": false, "|": false, "C;": false, "C::": false, "\xc3:": false, "@:": false, "[:": false, "`:": false, "{:": false,
	} {
		if got := beginsWithDriveLetter(middle); got != want {
			t.Errorf("beginsWithDriveLetter(%q) = %v", middle, got)
		}
	}
}

// TestSegmentsByAnotherWay goes through a path by what its dots do to its
// depth, from the end to the beginning, and so needs no list that shrinks.
func TestSegmentsByAnotherWay(t *testing.T) {
	source := rand.New(rand.NewSource(4))
	pieces := []string{"a", "b", "", ".", "..", "%2e", "%2E.", "..."}
	for range 20000 {
		parts := make([]string, 1+source.Intn(8))
		for i := range parts {
			parts[i] = pieces[source.Intn(len(pieces))]
		}
		text := "/" + strings.Join(parts, "/")
		if got, want := readSegments("x", nil, text), segmentsFromTheEnd(parts); !reflect.DeepEqual(got, want) {
			t.Fatalf("readSegments(%q) = %q, want %q", text, got, want)
		}
	}
}

func segmentsFromTheEnd(parts []string) []string {
	var kept []string
	gone := 0
	for i := len(parts) - 1; i >= 0; i-- {
		isLast := i == len(parts)-1
		switch dotsOf(parts[i]) {
		case "..":
			gone++
		case ".":
		default:
			if gone == 0 {
				kept = append([]string{parts[i]}, kept...)
			} else {
				gone--
			}
			continue
		}
		if isLast {
			kept = []string{""}
		}
	}
	return kept
}

func TestEverySchemeOfItsBytes(t *testing.T) {
	for i := range 256 {
		b := byte(i)
		isLetter := 'A' <= b && b <= 'Z' || 'a' <= b && b <= 'z'
		inner := isLetter || '0' <= b && b <= '9' || b == '+' || b == '-' || b == '.'
		if isScheme(string([]byte{b})) != isLetter || isScheme(string([]byte{b, 'a'})) != isLetter {
			t.Errorf("byte %d at the beginning", i)
		}
		if isScheme(string([]byte{'a', b})) != inner || isScheme(string([]byte{'a', b, 'a'})) != inner {
			t.Errorf("byte %d behind it", i)
		}
	}
	if isScheme("") {
		t.Error("nothing is a scheme")
	}
}
