package moor

import (
	"math/rand"
	"strings"
	"testing"

	"moor/api"
)

const full = "http://u:p@h:81/a?q#f"

// given has what With gives of an address by value.
type given struct {
	text, value, want string
}

func checkWith(t *testing.T, part int, cases []given) {
	t.Helper()
	for _, c := range cases {
		if told, errno := With(c.text, part, c.value); told != c.want || errno != api.OK {
			t.Errorf("With(%q, %d, %q) = %q, %d, want %q", c.text, part, c.value, told, errno, c.want)
		}
	}
}

func checkWithErrors(t *testing.T, part int, want api.Errno, cases []given) {
	t.Helper()
	for _, c := range cases {
		if told, errno := With(c.text, part, c.value); told != "" || errno != want {
			t.Errorf("With(%.40q, %d, %.40q) = %q, %d, want error %d", c.text, part, c.value, told, errno, want)
		}
	}
}

func TestP7Scheme(t *testing.T) {
	checkWith(t, api.PartScheme, []given{
		{full, "https", "https://u:p@h:81/a?q#f"}, {full, "WsS", "wss://u:p@h:81/a?q#f"}, {full, "ftp:", "ftp://u:p@h:81/a?q#f"}, {full, "ws:x:y", "ws://u:p@h:81/a?q#f"}, {full, "https://other:9/b", "https://u:p@h:81/a?q#f"}, {full, "http", full},
		{"http://h:443/", "https", "https://h/"}, {"http://h:443/", "WSS", "wss://h/"}, {"http://h:443/", "ftp", "ftp://h:443/"}, {"ws://h:21/", "ftp", "ftp://h/"}, {"https://h:80", "http", "http://h/"}, {"ftp://h:80", "ws", "ws://h/"}, {"http://h/", "ftp", "ftp://h/"},
		{"FILE://h/a", "File", "file://h/a"}, {"file:", "file:", "file:///"},
		{"a:b", "c", "c:b"}, {"a:b c?d#e", "B+1-.:", "b+1-.:b%20c?d#e"}, {"a:b", "h\tt\nt\rpx", "httpx:b"}, {"a://h:80/", "c", "c://h:80/"}, {"a:/.//p", "c", "c:/.//p"}, {"a:", "z", "z:"}, {"a://", "filed", "filed://"},
	})
}

func TestP7SchemeErrors(t *testing.T) {
	checkWithErrors(t, api.PartScheme, api.ErrPart, []given{
		{"a:b", "", ""}, {"a:b", "\t\r\n", ""}, {"a:b", ":", ""}, {"a:b", ":c", ""}, {"a:b", "1", ""}, {"a:b", "+c", ""}, {"a:b", "c d", ""}, {"a:b", " c", ""}, {"a:b", "c ", ""}, {"a:b", "c/", ""}, {"a:b", "c_", ""}, {"a:b", "c%41", ""}, {"a:b", "\xc3\xa9", ""}, {"a:b", "c\x00", ""}, {"a:b", "c ::", ""},
		{full, "", ""}, {full, "1", ""}, {full, "a", ""}, {full, "httpx", ""}, {full, "file", ""}, {full, "FILE:", ""},
		{"a:b", "http", ""}, {"a://h/", "https:", ""}, {"a:b", "file", ""}, {"a:///b", "file", ""},
		{"file:///", "a", ""}, {"file://h/", "http", ""}, {"file://h/", "ftp", ""}, {"file:///", "", ""},
	})
}

func TestP7UserAndPassword(t *testing.T) {
	checkWith(t, api.PartUser, []given{
		{full, "v", "http://v:p@h:81/a?q#f"}, {full, "", "http://:p@h:81/a?q#f"}, {full, "\t", "http://:p@h:81/a?q#f"}, {"http://u@h", "", "http://h/"}, {"http://h", "u", "http://u@h/"}, {"ftp://h", "a b", "ftp://a%20b@h/"}, {"a://h", " u ", "a://%20u%20@h"},
		{"a://h:1?q", "/:;=@[\\]|?#^`{}<>\"\xff\x00", "a://%2F%3A%3B%3D%40%5B%5C%5D%7C%3F%23%5E%60%7B%7D%3C%3E%22%FF%00@h:1?q"}, {"http://h", "A%41%$&+,!'~", "http://A%41%$&+,!'~@h/"}, {"a://[::1]", "u\r\nv", "a://uv@[::1]"},
	})
	checkWith(t, api.PartPassword, []given{
		{full, "v", "http://u:v@h:81/a?q#f"}, {full, "", "http://u@h:81/a?q#f"}, {"http://:p@h", "", "http://h/"}, {"http://h", "p", "http://:p@h/"}, {"a://h", "a:b@c", "a://:a%3Ab%40c@h"}, {"wss://u@h", "\tx y%20\n", "wss://u:x%20y%20@h/"},
	})
	for _, part := range []int{api.PartUser, api.PartPassword} {
		for _, value := range []string{"", "x", "\t"} {
			checkWithErrors(t, part, api.ErrPart, []given{
				{"a:b", value, ""}, {"a:/b", value, ""}, {"a:/.//b", value, ""}, {"a://", value, ""}, {"a:///b", value, ""}, {"file:///a", value, ""}, {"file://h/a", value, ""},
			})
		}
	}
}

func TestP7Host(t *testing.T) {
	checkWith(t, api.PartHost, []given{
		{full, "EXAMPLE.com", "http://u:p@example.com:81/a?q#f"}, {full, "%41", "http://u:p@a:81/a?q#f"}, {full, "0x7F.1", "http://u:p@127.0.0.1:81/a?q#f"}, {full, "[1:0:0:2:0:0:0:3]", "http://u:p@[1:0:0:2::3]:81/a?q#f"}, {full, "i\t\n\rj", "http://u:p@ij:81/a?q#f"}, {full, "LocalHost", "http://u:p@localhost:81/a?q#f"},
		{"a://u@H:1/b", "I%41\xff", "a://u@I%41%FF:1/b"}, {"a://h/b", "", "a:///b"}, {"a://h/b", "\n", "a:///b"}, {"a://h", "", "a://"}, {"a://", "", "a://"}, {"a://", "1.256", "a://1.256"}, {"a://h", "localhost", "a://localhost"}, {"a://h", "[::0]", "a://[::]"},
		{"a:/b?q", "H", "a://H/b?q"}, {"a:/b", "", "a:///b"}, {"a:/", "", "a:///"}, {"a:/.//p", "h", "a://h//p"}, {"a:/.//p", "", "a:////p"},
		{"file:///a", "H", "file://h/a"}, {"file://h/C:/", "", "file:///C:/"}, {"file://h/a", "LOCALHOST", "file:///a"}, {"file://h/a", "%6cocalhost", "file:///a"}, {"file://h/a", "\t", "file:///a"}, {"file:///a", "localhost.", "file://localhost./a"}, {"file:////a", "1", "file://0.0.0.1//a"},
	})
}

func TestP7HostErrors(t *testing.T) {
	checkWithErrors(t, api.PartHost, api.ErrPart, []given{
		{"a:", "h", ""}, {"a:b", "h", ""}, {"a:b", "", ""}, {"a:b", "a b", ""}, {"a:b?q", "[", ""},
		{"a://u@h", "", ""}, {"a://:p@h", "", ""}, {"a://h:1", "", ""}, {"a://h:0/", "", ""}, {"a://u:p@h:1/", "\t", ""},
	})
	checkWithErrors(t, api.PartHost, api.ErrHost, []given{
		{full, "", ""}, {"http://h/", "", ""}, {"ftp://h/", "\r\n", ""},
		{full, "a b", ""}, {full, " a", ""}, {full, "a:80", ""}, {full, "a/", ""}, {full, "a\\b", ""}, {full, "a?", ""}, {full, "a#", ""}, {full, "u@a", ""}, {full, "%", ""}, {full, "%00", ""}, {full, "\xff", ""}, {full, "1.256.1", ""}, {full, "[::1", ""}, {full, "[::1]:80", ""}, {full, "::1", ""},
		{"a://h", "a b", ""}, {"a://h", "a:1", ""}, {"a:/b", "/", ""}, {"a:/b", "x@y", ""}, {"a://u@h:1", "[]", ""},
		{"file:///", "C:", ""}, {"file:///", "C|", ""}, {"file:///", "a:80", ""}, {"file:///", "a/b", ""}, {"file:///", "0x1g.1.1.1.1", ""},
	})
}

func TestP7Port(t *testing.T) {
	checkWith(t, api.PartPort, []given{
		{full, "82", "http://u:p@h:82/a?q#f"}, {full, "0", "http://u:p@h:0/a?q#f"}, {full, "65535", "http://u:p@h:65535/a?q#f"}, {full, "000082", "http://u:p@h:82/a?q#f"}, {full, "8\t\n\r2", "http://u:p@h:82/a?q#f"}, {full, strings.Repeat("0", api.MaxText-2) + "82", "http://u:p@h:82/a?q#f"},
		{full, "80", "http://u:p@h/a?q#f"}, {full, "0080", "http://u:p@h/a?q#f"}, {full, "", "http://u:p@h/a?q#f"}, {full, "\n", "http://u:p@h/a?q#f"}, {"https://h:1", "443", "https://h/"}, {"ws://h:1", "80", "ws://h/"}, {"wss://h:1", "443", "wss://h/"}, {"ftp://h:1", "21", "ftp://h/"}, {"https://h", "80", "https://h:80/"},
		{"a://h", "80", "a://h:80"}, {"a://u@h:1/b", "", "a://u@h/b"}, {"a://[::]", "443", "a://[::]:443"},
	})
	checkWithErrors(t, api.PartPort, api.ErrPort, []given{
		{full, "65536", ""}, {full, "99999999999999999999999", ""}, {full, strings.Repeat("9", api.MaxText), ""}, {full, "8x", ""}, {full, "x", ""}, {full, " 8", ""}, {full, "8 ", ""}, {full, "-1", ""}, {full, "+1", ""}, {full, "0x50", ""}, {full, "8_0", ""}, {full, "8.0", ""}, {full, ":8", ""}, {full, "8/", ""}, {full, "%38", ""}, {"a://h", "1e1", ""}, {"a://h:1", "65536", ""},
	})
	for _, value := range []string{"", "8", "80", "x", "65536"} {
		checkWithErrors(t, api.PartPort, api.ErrPart, []given{
			{"a:b", value, ""}, {"a:/b", value, ""}, {"a://", value, ""}, {"a:///b", value, ""}, {"file:///a", value, ""}, {"file://h/a", value, ""},
		})
	}
}

func TestP7Path(t *testing.T) {
	checkWith(t, api.PartPath, []given{
		{full, "/b", "http://u:p@h:81/b?q#f"}, {full, "b/c", "http://u:p@h:81/b/c?q#f"}, {full, "", "http://u:p@h:81/?q#f"}, {full, "\t", "http://u:p@h:81/?q#f"}, {full, "/", "http://u:p@h:81/?q#f"}, {full, "//b", "http://u:p@h:81//b?q#f"}, {full, "\\b\\\\c", "http://u:p@h:81/b//c?q#f"}, {full, "?#", "http://u:p@h:81/%3F%23?q#f"}, {full, "b?c#d", "http://u:p@h:81/b%3Fc%23d?q#f"}, {full, " b c ", "http://u:p@h:81/%20b%20c%20?q#f"}, {full, "b\r\n/\t/c", "http://u:p@h:81/b//c?q#f"},
		{full, "../b/./c/../d/%2E%2e/.", "http://u:p@h:81/b/?q#f"}, {full, "b/.\t.", "http://u:p@h:81/?q#f"}, {full, "C|/..", "http://u:p@h:81/?q#f"}, {full, "C|", "http://u:p@h:81/C|?q#f"}, {full, "%41^`{}\xff", "http://u:p@h:81/%41%5E%60%7B%7D%FF?q#f"},
		{"a://h/b", "", "a://h"}, {"a://h", "b", "a://h/b"}, {"a://h", "\\b", "a://h/\\b"}, {"a://h/b", "/", "a://h/"}, {"a://h/b", "..", "a://h/"}, {"a:///b", "", "a://"}, {"a://h?q", "//", "a://h//?q"},
		{"a:/b", "x", "a:/x"}, {"a:/b", "/", "a:/"}, {"a:/b", ".", "a:/"}, {"a:/b", "..", "a:/"}, {"a:/b", "//x", "a:/.//x"}, {"a:/b", "./\t/x", "a:/.//x"}, {"a:/.//b", "/x", "a:/x"}, {"a:/b", "C|", "a:/C|"},
		{"file:///a", "C|/../..", "file:///C:/"}, {"file://h/a", "/C|", "file://h/C:"}, {"file:///C:/a", "b", "file:///b"}, {"file:///a", "", "file:///"}, {"file:///a", "//C|", "file:////C|"}, {"file:///a", "\\D:\\..\\e", "file:///D:/e"}, {"file:///a", "C|?", "file:///C|%3F"},
	})
	checkWithErrors(t, api.PartPath, api.ErrPart, []given{
		{"a:b", "x", ""}, {"a:b", "", ""}, {"a:b", "/x", ""}, {"a:", "x", ""}, {"mailto:a@b?q", "//", ""},
		{"a:/b", "", ""}, {"a:/", "", ""}, {"a:/.//b", "", ""}, {"a:/b?q#f", "\t\r\n", ""},
	})
}

func TestP7Query(t *testing.T) {
	checkWith(t, api.PartQuery, []given{
		{full, "r=1&s", "http://u:p@h:81/a?r=1&s#f"}, {full, "?r", "http://u:p@h:81/a?r#f"}, {full, "??r?", "http://u:p@h:81/a??r?#f"}, {full, "?", "http://u:p@h:81/a?#f"}, {full, "", "http://u:p@h:81/a#f"}, {full, "\t\n\r", "http://u:p@h:81/a#f"}, {full, "\t?\n?", "http://u:p@h:81/a??#f"}, {full, "r#s", "http://u:p@h:81/a?r%23s#f"}, {full, "#r", "http://u:p@h:81/a?%23r#f"},
		{full, "' \"<>`\xff\x01%41\\", "http://u:p@h:81/a?%27%20%22%3C%3E`%FF%01%41\\#f"}, {"file:///a", "'", "file:///a?%27"}, {"http://h", "/../", "http://h/?/../"},
		{"a:b", "' \"<>`\xff\x01", "a:b?'%20%22%3C%3E`%FF%01"}, {"a:b?c", "", "a:b"}, {"a:/b#f", "c", "a:/b?c#f"}, {"a://", "?", "a://?"}, {"a:?b", "c ", "a:?c%20"},
	})
}

func TestP7Fragment(t *testing.T) {
	checkWith(t, api.PartFragment, []given{
		{full, "g", "http://u:p@h:81/a?q#g"}, {full, "#g", "http://u:p@h:81/a?q#g"}, {full, "##g#", "http://u:p@h:81/a?q##g#"}, {full, "#", "http://u:p@h:81/a?q#"}, {full, "", "http://u:p@h:81/a?q"}, {full, "\n", "http://u:p@h:81/a?q"}, {full, "?g", "http://u:p@h:81/a?q#?g"}, {full, "\r#\t#", "http://u:p@h:81/a?q##"},
		{full, "' \"<>`\xff\x01%41\\{}", "http://u:p@h:81/a?q#'%20%22%3C%3E%60%FF%01%41\\{}"}, {"a:b", "c d", "a:b#c%20d"}, {"a:b#c", "", "a:b"}, {"file:///", "C|", "file:///#C|"}, {"a://h", "#/..", "a://h#/.."},
	})
}

func TestP7FirstErrors(t *testing.T) {
	long := strings.Repeat("a", api.MaxText+1)
	for _, part := range numbers {
		checkWithErrors(t, part, api.ErrLong, []given{{full, long, ""}, {long, "a", ""}, {"x", long, ""}, {long, long, ""}, {"http://", long, ""}, {full, strings.Repeat("\t", api.MaxText+1), ""}, {strings.Repeat(" ", api.MaxText+1), "", ""}})
		checkWithErrors(t, part, api.ErrRelative, []given{{"", "a", ""}, {"x", "a", ""}, {"//h", "", ""}, {"1:", "\x00", ""}})
		checkWithErrors(t, part, api.ErrHost, []given{{"http://", "a", ""}, {"x://u@", "", ""}, {"file://a b", "a", ""}})
		checkWithErrors(t, part, api.ErrPort, []given{{"http://h:x", "a", ""}, {"x://h:65536", "", ""}})
		if part < api.PartScheme || part > api.PartFragment {
			checkWithErrors(t, part, api.ErrPart, []given{{full, "a", ""}, {full, "", ""}, {"a:b", "a", ""}, {"file:", "\t", ""}, {full, "65536", ""}})
		}
	}
}

func TestP7Longest(t *testing.T) {
	value := strings.Repeat("\xff", api.MaxText)
	escaped := strings.Repeat("%FF", api.MaxText)
	checkWith(t, api.PartUser, []given{{"a://h", value, "a://" + escaped + "@h"}})
	checkWith(t, api.PartHost, []given{{"a://h", value, "a://" + escaped}})
	checkWith(t, api.PartPath, []given{{"a://h", value, "a://h/" + escaped}})
	checkWith(t, api.PartQuery, []given{{"a:b", value, "a:b?" + escaped}, {"a:" + value[2:], "", "a:" + escaped[6:]}})
	checkWith(t, api.PartFragment, []given{{"a:b", value, "a:b#" + escaped}})
}

// onlyPart gives the parts of an address, with those of another one that With
// may have changed.
func onlyPart(was, is api.Parts, part int) api.Parts {
	switch part {
	case api.PartScheme:
		was.Scheme, was.Port = is.Scheme, is.Port
	case api.PartUser:
		was.User = is.User
	case api.PartPassword:
		was.Password = is.Password
	case api.PartHost:
		was.HasHost, was.Host = is.HasHost, is.Host
	case api.PartPort:
		was.Port = is.Port
	case api.PartPath:
		was.Path = is.Path
	case api.PartQuery:
		was.HasQuery, was.Query = is.HasQuery, is.Query
	case api.PartFragment:
		was.HasFragment, was.Fragment = is.HasFragment, is.Fragment
	}
	return was
}

func TestP7LeavesTheOtherParts(t *testing.T) {
	source := rand.New(rand.NewSource(5))
	var seen [api.PartFragment + 1]int
	for range 60000 {
		text, part, value := randomAddress(source), api.PartScheme+source.Intn(api.PartFragment), randomValue(source)
		if source.Intn(2) == 0 {
			text = bases[source.Intn(len(bases))]
		}
		told, errno := With(text, part, value)
		if errno != api.OK {
			continue
		}
		seen[part]++
		was, _ := Split(text)
		is, errno := Split(told)
		if want := onlyPart(was, is, part); is != want || errno != api.OK {
			t.Errorf("With(%q, %d, %q) = %q, of other parts", text, part, value, told)
		}
		checkTold(t, told)
		if t.Failed() {
			t.Fatalf("it was told of %q with %d, %q", text, part, value)
		}
	}
	for part, count := range seen[1:] {
		if count < 200 {
			t.Errorf("only %d were any with part %d", count, part+1)
		}
	}
}

func randomValue(source *rand.Rand) string {
	whole := []string{"", "http", "https:", "ws", "ftp", "file", "y", "z+", "h", "localhost", "80", "443", "21", "0", "81", "082", "65535", "[::1]", "1.2", "C|", "?", "#"}
	if source.Intn(2) == 0 {
		return whole[source.Intn(len(whole))]
	}
	return randomAddress(source)
}
