package moor

import (
	"math/rand"
	"slices"
	"strings"
	"sync"
	"testing"

	"moor/api"
)

// strange has texts that are cut off, doubled, out of all bounds, or no UTF-8.
func strange() []string {
	texts := []string{
		"", " ", "\x00", "\xff", "é", "%", "%%", "%4", "%zz", "%00", "[", "]", "[]", "[[]]", "[:", "[::", "[:::]", "[.]", "[::.]", "[::...]", "[1.2.3.4]",
		".", "..", "...", "0x", "0x.", ".0x", "0", "00", "08", "-0", "1..1", "a:", "://", "//", "a://", "?", "#", "@", ":", "\\", "&", "=", "+",
	}
	for _, piece := range []string{"a", "%", "%41", "[", ":", "0:", ".", "0.", "9", "0", "f", "/", "\xff", "&", "="} {
		texts = append(texts, strings.Repeat(piece, api.MaxText/len(piece)), strings.Repeat(piece, api.MaxText+1), strings.Repeat(piece, 100000), "["+strings.Repeat(piece, 900)+"]", "[::"+strings.Repeat(piece, 100)+"]")
	}
	source := rand.New(rand.NewSource(2))
	const bytes = "[]:.%019afxgXAF\x00\xff /@?#"
	for range 3000 {
		text := make([]byte, source.Intn(24))
		for i := range text {
			text[i] = bytes[source.Intn(len(bytes))]
		}
		texts = append(texts, string(text), randomAddress(source))
	}
	return texts
}

var numbers = []int{-1 << 63, -1, 0, 1, 2, 3, 4, 5, 6, 7, 8, 9, 64, 1<<63 - 1}

func TestP1NoCallPanics(t *testing.T) {
	for _, text := range strange() {
		Unescape(text)
		Split(text)
		Origin(text)
		Pairs(text)
		Parse(text, "")
		Parse(text, text)
		for _, base := range bases {
			Parse(text, base)
		}
		for _, n := range numbers {
			Escape(text, n)
			With(text, n, text)
			for _, base := range bases {
				With(base, n, text)
			}
		}
		Join([]api.Pair{{Name: text, Value: text}, {}})
	}
	Join(nil)
	Join([]api.Pair{})
}

func TestP1NothingBesideAnError(t *testing.T) {
	for _, text := range strange() {
		for _, special := range []bool{false, true} {
			told, errno := Host(text, special)
			if errno != api.OK && told != "" {
				t.Errorf("Host(%q, %v) = %q beside %d", text, special, told, errno)
			}
			if errno == api.OK && told == "" && (text != "" || special) {
				t.Errorf("Host(%q, %v) = nothing, without an error", text, special)
			}
		}
		for _, base := range append([]string{"", text}, bases...) {
			if told, errno := Parse(text, base); (errno == api.OK) != (told != "") {
				t.Errorf("Parse(%q, %q) = %q beside %d", text, base, told, errno)
			}
		}
		if parts, errno := Split(text); (errno == api.OK) != (parts != api.Parts{}) {
			t.Errorf("Split(%q) = %+v beside %d", text, parts, errno)
		}
		if origin, errno := Origin(text); (errno == api.OK) != (origin != "") {
			t.Errorf("Origin(%q) = %q beside %d", text, origin, errno)
		}
		for _, n := range numbers {
			for _, base := range []string{text, "http://u@h:81/a", "x:/a", "x:b", "file:///"} {
				if told, errno := With(base, n, text); (errno == api.OK) != (told != "") {
					t.Errorf("With(%q, %d, %q) = %q beside %d", base, n, text, told, errno)
				}
			}
		}
		if pairs, errno := Pairs(text); errno != api.OK && len(pairs) > 0 {
			t.Errorf("Pairs(%q) = %q beside %d", text, pairs, errno)
		}
		if query, errno := Join([]api.Pair{{Name: text, Value: text}}); (errno == api.OK) != (query != "") {
			t.Errorf("Join of %q = %q beside %d", text, query, errno)
		}
	}
}

func TestP1FirstErrorIsTold(t *testing.T) {
	for _, text := range []string{strings.Repeat(" ", api.MaxText+1), strings.Repeat("[", api.MaxText+1), strings.Repeat("9", api.MaxText+1)} {
		for _, special := range []bool{false, true} {
			if told, errno := Host(text, special); told != "" || errno != api.ErrLong {
				t.Errorf("Host of a long one that is none = %q, %d, want ErrLong", told, errno)
			}
		}
	}
}

type answer struct {
	escaped, unescaped, host, told, origin, with, query string
	parts                                               api.Parts
	last                                                api.Pair
	errnos                                              [7]api.Errno
}

func ask(text string, n int) answer {
	a := answer{escaped: Escape(text, n%7), unescaped: Unescape(text)}
	a.host, a.errnos[0] = Host(text, n%2 == 0)
	a.told, a.errnos[1] = Parse(text, bases[n%len(bases)])
	a.parts, a.errnos[2] = Split(text)
	a.origin, a.errnos[3] = Origin(text)
	a.with, a.errnos[4] = With(bases[n%len(bases)], 1+n%8, text)
	pairs, errno := Pairs(text)
	if len(pairs) > 0 {
		a.last = pairs[len(pairs)-1]
	}
	a.errnos[5] = errno
	a.query, a.errnos[6] = Join(append(pairs, api.Pair{Name: text}))
	return a
}

func TestP2AnswersHangOnArgumentsAlone(t *testing.T) {
	texts := strange()
	first := make([]answer, len(texts))
	for i, text := range texts {
		first[i] = ask(text, i)
	}
	var group sync.WaitGroup
	for range 4 {
		group.Go(func() {
			for i := len(texts) - 1; i >= 0; i-- {
				if ask(texts[i], i) != first[i] {
					t.Errorf("another answer of %q", texts[i])
				}
			}
		})
	}
	group.Wait()
}

func TestP2ListsAreNotWrittenInto(t *testing.T) {
	pairs := []api.Pair{{Name: "a b", Value: "%"}, {Name: "", Value: "+"}, {Name: "spare", Value: "room"}}
	Join(pairs[:2])
	if pairs[0] != (api.Pair{Name: "a b", Value: "%"}) || pairs[1] != (api.Pair{Name: "", Value: "+"}) || pairs[2] != (api.Pair{Name: "spare", Value: "room"}) {
		t.Errorf("Join wrote into its list: %q", pairs)
	}
}

func TestP2ListsAreNewMemory(t *testing.T) {
	const query = "a=1&b=2&c=3"
	first, _ := Pairs(query)
	second, _ := Pairs(query)
	for i := range first[:cap(first)] {
		first[:cap(first)][i] = api.Pair{Name: "x", Value: "y"}
	}
	third, _ := Pairs(query)
	want := []api.Pair{{Name: "a", Value: "1"}, {Name: "b", Value: "2"}, {Name: "c", Value: "3"}}
	if !slices.Equal(second, want) || !slices.Equal(third, want) {
		t.Errorf("what is written into one list is in another one: %q, %q", second, third)
	}
}

func TestP3Escape(t *testing.T) {
	for _, c := range []struct {
		text string
		set  int
		want string
	}{
		{"", api.Component, ""},
		{"a b\x00~\x7f\x80", api.Control, "a b%00~%7F%80"},
		{"\x1f \x7e", api.Control, "%1F \x7e"},
		{"é", api.Control, "%C3%A9"},
		{"a`#'", api.Fragment, "a%60#'"},
		{"a`#'", api.Query, "a`%23'"},
		{"a`#'", api.Special, "a`%23%27"},
		{"a`#'?^{}/", api.Path, "a%60%23'%3F%5E%7B%7D/"},
		{"a/:;=@[\\]|$", api.User, "a%2F%3A%3B%3D%40%5B%5C%5D%7C$"},
		{"a$%&+,-'", api.Component, "a%24%25%26%2B%2C-'"},
		{"%41", api.User, "%41"},
		{"%41", api.Component, "%2541"},
	} {
		if got := Escape(c.text, c.set); got != c.want {
			t.Errorf("Escape(%q, %d) = %q, want %q", c.text, c.set, got, c.want)
		}
	}
}

func TestP3NoneOfTheSevenSets(t *testing.T) {
	text := "a \x00%41\xff\"#<>?`'"
	for _, set := range []int{-1, 7, 8, 1 << 32, -1 << 63, 1<<63 - 1} {
		if got := Escape(text, set); got != text {
			t.Errorf("Escape(.., %d) = %q", set, got)
		}
	}
}

func TestP3HasNoBoundOfLength(t *testing.T) {
	long := strings.Repeat(" ", 3*api.MaxText)
	escaped := strings.Repeat("%20", 3*api.MaxText)
	if Escape(long, api.Path) != escaped || Unescape(escaped) != long {
		t.Error("long texts are cut")
	}
}

func TestP3Unescape(t *testing.T) {
	for text, want := range map[string]string{
		"": "", "a": "a", "%41%7a%7A": "Azz", "%00%ff%FF": "\x00\xff\xff", "%2541": "%41", "%%41": "%A",
		"%": "%", "%4": "%4", "%4g": "%4g", "%g4": "%g4", "%%": "%%", "a%41%": "aA%", "+": "+", "\xff": "\xff",
	} {
		if got := Unescape(text); got != want {
			t.Errorf("Unescape(%q) = %q, want %q", text, got, want)
		}
	}
}

func TestP3UnescapeUndoesComponent(t *testing.T) {
	for _, text := range strange() {
		if got := Unescape(Escape(text, api.Component)); got != text {
			t.Fatalf("%q came back as %q", text, got)
		}
	}
}

type hostCase struct {
	text string
	want string // empty: ErrHost
}

func checkHosts(t *testing.T, special bool, cases []hostCase) {
	t.Helper()
	for _, c := range cases {
		want := api.OK
		if c.want == "" {
			want = api.ErrHost
		}
		if told, errno := Host(c.text, special); told != c.want || errno != want {
			t.Errorf("Host(%q, %v) = %q, %d, want %q, %d", c.text, special, told, errno, c.want, want)
		}
	}
}

func TestP4Special(t *testing.T) {
	checkHosts(t, true, []hostCase{
		{"Example.COM", "example.com"}, {"example.com.", "example.com."}, {"%41", "a"}, {"a%2eB", "a.b"}, {"~", "~"}, {"a_-!$&'()*+,;=`{}\"", "a_-!$&'()*+,;=`{}\""},
		{"", ""}, {"a b", ""}, {"a%20b", ""}, {"%", ""}, {"a%4", ""}, {"a%zz", ""}, {"%2541", ""}, {"a\x7f", ""}, {"a%7F", ""}, {"é", ""}, {"%C3%A9", ""}, {"a\x1f", ""}, {"a%5B", ""}, {"%5B::1%5D", ""},
		{".", "."}, {"..", ".."}, {"a..b", "a..b"},
	})
}

func TestP4NumbersHosts(t *testing.T) {
	checkHosts(t, true, []hostCase{
		{"0x7F.1", "127.0.0.1"}, {"%31", "0.0.0.1"}, {"1.2.3.4.", "1.2.3.4"}, {"1.2.3.4..", "1.2.3.4.."},
		{"a.1", ""}, {"a.0x", ""}, {"a.0xf.", ""}, {"a.09", ""}, {"1.a", "1.a"}, {"1.0xg", "1.0xg"}, {"1.1x", "1.1x"}, {"0x1x", "0x1x"}, {"1.-1", "1.-1"}, {"x", "x"},
		{"1..1", ""}, {".1", ""}, {"1.2.3.4.5", ""}, {"0.0.0.0.0", ""},
	})
}

func TestP4BoundsOfIP4(t *testing.T) {
	checkHosts(t, true, []hostCase{
		{"0", "0.0.0.0"}, {"0.0.0.0", "0.0.0.0"}, {"255.255.255.255", "255.255.255.255"},
		{"1.2.3.255", "1.2.3.255"}, {"1.2.3.256", ""}, {"1.2.65535", "1.2.255.255"}, {"1.2.65536", ""}, {"1.16777215", "1.255.255.255"}, {"1.16777216", ""}, {"4294967295", "255.255.255.255"}, {"4294967296", ""},
		{"255.1", "255.0.0.1"}, {"256.1", ""}, {"1.256.1", ""}, {"1.1.256.1", ""}, {"0xff.1", "255.0.0.1"}, {"0x100.1", ""}, {"0377.1", "255.0.0.1"}, {"0400.1", ""},
		{"0xffffffff", "255.255.255.255"}, {"0x100000000", ""}, {"037777777777", "255.255.255.255"}, {"040000000000", ""},
		{"18446744073709551616", ""}, {"18446744073709551617", ""}, {"0x10000000000000001", ""}, {strings.Repeat("9", api.MaxText), ""},
		{strings.Repeat("0", api.MaxText-1) + "7", "0.0.0.7"}, {strings.Repeat("0", api.MaxText-1) + "8", ""},
		{"0x", "0.0.0.0"}, {"0x.0X.0x.0x", "0.0.0.0"}, {"00", "0.0.0.0"}, {"07", "0.0.0.7"}, {"08", ""}, {"010", "0.0.0.8"}, {"018", ""}, {"10", "0.0.0.10"},
	})
}

func TestP4IP6(t *testing.T) {
	for _, special := range []bool{false, true} {
		checkHosts(t, special, []hostCase{
			{"[1:2:3:4:5:6:7:8]", "[1:2:3:4:5:6:7:8]"}, {"[0001:00AB:Abc::F]", "[1:ab:abc::f]"}, {"[ffff::FFFF]", "[ffff::ffff]"},
			{"[::]", "[::]"}, {"[0:0:0:0:0:0:0:0]", "[::]"}, {"[::1]", "[::1]"}, {"[1::]", "[1::]"},
			{"[1:0:0:2:0:0:0:3]", "[1:0:0:2::3]"}, {"[1:0:0:2:3:0:0:4]", "[1::2:3:0:0:4]"}, {"[0:0:1:0:0:0:1:1]", "[0:0:1::1:1]"}, {"[0:1:0:1:0:1:0:1]", "[0:1:0:1:0:1:0:1]"}, {"[1:1:1:1:1:1:0:0]", "[1:1:1:1:1:1::]"}, {"[0:0:1:1:1:1:0:0]", "[::1:1:1:1:0:0]"}, {"[1::0:0:2:0:0]", "[1::2:0:0]"},
			{"[::2:3:4:5:6:7:8]", "[0:2:3:4:5:6:7:8]"}, {"[1:2:3::5:6:7:8]", "[1:2:3:0:5:6:7:8]"}, {"[1:2:3:4:5:6:7::]", "[1:2:3:4:5:6:7:0]"}, {"[1:2:3:4:5:6:7:8::]", ""}, {"[::1:2:3:4:5:6:7:8]", ""}, {"[1:2:3:4::5:6:7:8]", ""},
			{"[1:2:3:4:5:6:7]", ""}, {"[1:2:3:4:5:6:7:8:9]", ""}, {"[1::2::3]", ""}, {"[:::]", ""}, {"[::::]", ""}, {"[:]", ""}, {"[1:]", ""}, {"[:1]", ""}, {"[:1::]", ""}, {"[::1:]", ""}, {"[]", ""}, {"[", ""}, {"[::", ""}, {"[::1]a", ""}, {"[[::]]", ""}, {"[::1]]", ""}, {"[12345::]", ""}, {"[00001::]", ""}, {"[g::]", ""}, {"[::1%25]", ""}, {"[%31::]", ""}, {"[ ::]", ""}, {"[-1::]", ""}, {"[0x1::]", ""},
		})
	}
}

func TestP4DotsInIP6(t *testing.T) {
	checkHosts(t, true, []hostCase{
		{"[::1.2.3.4]", "[::102:304]"}, {"[::0.0.0.0]", "[::]"}, {"[::255.255.255.255]", "[::ffff:ffff]"}, {"[::ffff:1.2.3.4]", "[::ffff:102:304]"}, {"[1:2:3:4:5:6:1.2.3.4]", "[1:2:3:4:5:6:102:304]"}, {"[1:2:3:4:5::1.2.3.4]", "[1:2:3:4:5:0:102:304]"}, {"[1::10.0.0.0]", "[1::a00:0]"},
		{"[1:2:3:4:5:6::1.2.3.4]", ""}, {"[1:2:3:4:5:6:7:1.2.3.4]", ""}, {"[1:2:3:4:5:1.2.3.4]", ""}, {"[1.2.3.4]", ""}, {"[1.2.3.4::]", ""}, {"[1.2.3.4::1]", ""}, {"[::1.2.3.4:5]", ""}, {"[::1.2.3.4::]", ""}, {"[:1.2.3.4]", ""}, {"[:::1.2.3.4]", ""},
		{"[::256.0.0.0]", ""}, {"[::0.0.0.256]", ""}, {"[::01.2.3.4]", ""}, {"[::1.2.3.00]", ""}, {"[::0x1.2.3.4]", ""}, {"[::a.2.3.4]", ""}, {"[::1.2.3]", ""}, {"[::1.2.3.4.]", ""}, {"[::1.2.3.4.5]", ""}, {"[::1..3.4]", ""}, {"[::.1.2.3]", ""}, {"[::1.2.3.99999999999999999999]", ""},
	})
}

func TestP4NotSpecial(t *testing.T) {
	checkHosts(t, false, []hostCase{
		{"Ab%41", "Ab%41"}, {"1.256", "1.256"}, {"0x", "0x"}, {"a%", "a%"}, {"%00", "%00"}, {"é\x01\x7f~", "%C3%A9%01%7F~"}, {"!\"$&'()*+,-.;=_`{}", "!\"$&'()*+,-.;=_`{}"},
		{"a b", ""}, {"\x00", ""}, {"a\t", ""}, {"a\n", ""}, {"a\r", ""}, {"a#", ""}, {"a/", ""}, {"a:", ""}, {"<", ""}, {">", ""}, {"?", ""}, {"@", ""}, {"a[", ""}, {"a\\", ""}, {"]", ""}, {"^", ""}, {"|", ""},
	})
	if told, errno := Host("", false); told != "" || errno != api.OK {
		t.Errorf("Host of nothing, not special = %q, %d", told, errno)
	}
}

func TestP4Long(t *testing.T) {
	for _, special := range []bool{false, true} {
		longest := strings.Repeat("a", api.MaxText)
		if told, errno := Host(longest, special); told != longest || errno != api.OK {
			t.Errorf("Host of the longest: %d", errno)
		}
		if told, errno := Host(longest+"a", special); told != "" || errno != api.ErrLong {
			t.Errorf("Host of one that is too long: %d", errno)
		}
	}
	if told, errno := Host(strings.Repeat("\xff", api.MaxText), false); told != strings.Repeat("%FF", api.MaxText) || errno != api.OK {
		t.Errorf("the bound is of what is read, not of what is told: %d", errno)
	}
}
