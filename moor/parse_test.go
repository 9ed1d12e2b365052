package moor

import (
	"strconv"
	"strings"
	"testing"

	"moor/api"
)

type parseCase struct{ text, want string }

func checkParse(t *testing.T, base string, cases []parseCase) {
	t.Helper()
	for _, c := range cases {
		if told, errno := Parse(c.text, base); told != c.want || errno != api.OK {
			t.Errorf("Parse(%q, %q) = %q, %d, want %q", c.text, base, told, errno, c.want)
		}
	}
}

func checkParseErrors(t *testing.T, base string, want api.Errno, texts ...string) {
	t.Helper()
	for _, text := range texts {
		if told, errno := Parse(text, base); told != "" || errno != want {
			t.Errorf("Parse(%q, %q) = %q, %d, want error %d", text, base, told, errno, want)
		}
	}
}

func TestP5Examples(t *testing.T) {
	checkParse(t, "", []parseCase{
		{"HTTP://User@EXAMPLE.com:80/a/../b?q#f", "http://User@example.com/b?q#f"},
		{"mailto:a b", "mailto:a%20b"},
		{"file:///C|/a/../..", "file:///C:/"},
		{"a:/.//p", "a:/.//p"},
	})
	checkParse(t, "http://h/a/b/c", []parseCase{{"../x", "http://h/a/x"}, {"//x", "http://x/"}, {"?y", "http://h/a/b/c?y"}})
	checkParseErrors(t, "", api.ErrRelative, "x")
}

func TestP5BytesThatGo(t *testing.T) {
	checkParse(t, "", []parseCase{
		{"\x00\x1f \thttp://h/!\x01 \n", "http://h/!"},
		{"h\tt\nt\rp\n:/\t/h\n/.\n./%\t2\re/a?\nb#\tc", "http://h/a?b#c"},
		{"http://h/a\x0bb c", "http://h/a%0Bb%20c"},
		{"http://h/a\x7f", "http://h/a%7F"},
		{"http://h/a\xa0", "http://h/a%A0"},
		{"http://h/#a \t ", "http://h/#a"},
		{" a: \t ", "a:"},
		{"a:\tb \nc", "a:b%20c"},
	})
	checkParse(t, " \thttp://h/a/\nb ", []parseCase{{" c\td ", "http://h/a/cd"}, {" ", "http://h/a/b"}, {"\n", "http://h/a/b"}})
	checkParseErrors(t, "", api.ErrRelative, " ", "\t\n\r", "\xa0http://h", "\x7fhttp://h", "ht tp://h")
}

var specialPorts = []struct {
	scheme string
	port   string
}{{"http", "80"}, {"https", "443"}, {"ws", "80"}, {"wss", "443"}, {"ftp", "21"}}

func TestP5SpecialSchemes(t *testing.T) {
	for _, c := range specialPorts {
		s := c.scheme
		checkParse(t, "", []parseCase{
			{s + "://h:" + c.port, s + "://h/"},
			{strings.ToUpper(s) + ":H", s + "://h/"},
			{s + ":///\\/h\\a\\..\\b?\\#\\", s + "://h/b?\\#\\"},
			{s + "://%48?'", s + "://h/?%27"},
			{s + "://1", s + "://0.0.0.1/"},
		})
		for _, port := range []string{"80", "443", "21", "0", "65535"} {
			if port != c.port {
				checkParse(t, "", []parseCase{{s + "://h:" + port + "/", s + "://h:" + port + "/"}})
			}
		}
		checkParseErrors(t, "", api.ErrHost, s+":", s+"://", s+":////", s+":?q", s+":#f")
		checkParse(t, s+"://h/a/b", []parseCase{{s + ":c", s + "://h/a/c"}, {"x:c", "x:c"}})
	}
}

func TestP5OtherSchemes(t *testing.T) {
	for _, s := range []string{"x", "httpx", "htt", "files", "a+-.1", "z9"} {
		checkParse(t, "", []parseCase{
			{strings.ToUpper(s) + "://H:80/A/../b", s + "://H:80/b"},
			{s + "://h:443", s + "://h:443"}, {s + "://h:21?", s + "://h:21?"},
			{s + "://1", s + "://1"}, {s + "://%48", s + "://%48"},
			{s + ":h", s + ":h"}, {s + ":/h", s + ":/h"}, {s + ":///h", s + ":///h"}, {s + ":////h", s + ":////h"},
			{s + ":/a\\..\\b/..", s + ":/"}, {s + ":/a/\\..\\b", s + ":/a/\\..\\b"}, {s + ":\\\\h", s + ":\\\\h"}, {s + ":/\\h", s + ":/\\h"},
			{s + "://h/?'", s + "://h/?'"},
			{s + "://", s + "://"}, {s + "://?q", s + "://?q"}, {s + ":///", s + ":///"},
			{s + "://h/..", s + "://h/"}, {s + "://h/.", s + "://h/"}, {s + "://h", s + "://h"},
		})
		checkParseErrors(t, "", api.ErrHost, s+"://h\\a", s+"://a b", s+"://a<b")
		checkParse(t, s+"://h/a/b", []parseCase{{s + ":c", s + ":c"}, {s + ":/c", s + ":/c"}, {s + ":", s + ":"}})
	}
}

func TestP5WhatIsNoScheme(t *testing.T) {
	texts := []string{"", "a", "1a:b", "+a:b", "-a:b", ".a:b", ":b", ":", "a_b:c", "\xe9:b", "a\xe9:b", "a%41:b", "a/b:c", "a?b:c", "a#b:c", "a b:c", "//h", "/p", "?q", "#f", "[:b", "@:b", "`:b", "{:b"}
	checkParseErrors(t, "", api.ErrRelative, texts...)
	checkParse(t, "http://h/p", []parseCase{{"1a:b", "http://h/1a:b"}, {":", "http://h/:"}, {"a_b:c", "http://h/a_b:c"}, {"a/b:c", "http://h/a/b:c"}, {"a?b:c", "http://h/a?b:c"}, {"a#b:c", "http://h/a#b:c"}})
}

func TestP5UsersAndPasswords(t *testing.T) {
	checkParse(t, "", []parseCase{
		{"http://u@h", "http://u@h/"}, {"http://u:p@h", "http://u:p@h/"}, {"http://u:@h", "http://u@h/"}, {"http://:p@h", "http://:p@h/"}, {"http://:@h", "http://h/"}, {"http://@h", "http://h/"}, {"http://@@h", "http://%40@h/"},
		{"http://a@b@h", "http://a%40b@h/"}, {"http://a@b:c@d:e@h:81", "http://a%40b:c%40d%3Ae@h:81/"}, {"http://a::b@h", "http://a:%3Ab@h/"},
		{"http://U%41%:P%zz@h", "http://U%41%:P%zz@h/"}, {"http://a b:c d@h", "http://a%20b:c%20d@h/"}, {"http://';=[]|^`{}\"<>$&+,@h", "http://'%3B%3D%5B%5D%7C%5E%60%7B%7D%22%3C%3E$&+,@h/"},
		{"x://u\\:p\\@h", "x://u%5C:p%5C@h"}, {"x://u:p@H:1", "x://u:p@H:1"}, {"x://:@h", "x://h"},
		{"http://h/u@i", "http://h/u@i"}, {"http://h?u@i", "http://h/?u@i"}, {"http://h#u@i", "http://h/#u@i"}, {"http:u@h", "http://u@h/"}, {"http:\\u@h", "http://u@h/"}, {"http://h\\@i:x", "http://h/@i:x"},
	})
	checkParseErrors(t, "", api.ErrHost, "http://@", "http://u@", "http://u:p@", "http://u:p@/", "http://u@?q", "http://u@#f", "x://@", "x://u@", "x://u@/p", "x://:@/", "x://u@:1", "http://u@:1", "file://u@h/", "file://@h/")
}

func TestP5Ports(t *testing.T) {
	checkParse(t, "", []parseCase{
		{"http://h:", "http://h/"}, {"http://h:/", "http://h/"}, {"http://h:?q", "http://h/?q"}, {"http://h:#f", "http://h/#f"}, {"http://h:\\a", "http://h/a"},
		{"http://h:0", "http://h:0/"}, {"http://h:00", "http://h:0/"}, {"http://h:0080", "http://h/"}, {"http://h:0081", "http://h:81/"}, {"http://h:65535", "http://h:65535/"},
		{"http://h:" + strings.Repeat("0", 1500) + "65535", "http://h:65535/"},
		{"x://h:", "x://h"}, {"x://h:0", "x://h:0"}, {"x://h:00/", "x://h:0/"}, {"http://u:p@h:", "http://u:p@h/"},
	})
	checkParseErrors(t, "", api.ErrPort,
		"http://h:65536", "http://h:99999", "http://h:100000", "http://h:18446744073709551616", "http://h:18446744073709551696", "http://h:"+strings.Repeat("9", 1900),
		"http://h:-1", "http://h:+80", "http://h:8 0", "http://h:8_0", "http://h:0x50", "http://h:8a", "http://h:a", "http://h:80:80", "http://h::", "http://h::80", "http://h:%38", "http://h:\xb9", "http://h:[", "http://h:]",
		"x://h:65536", "x://h:a", "x://h:80\\")
}

func TestP5MarksWithinBrackets(t *testing.T) {
	checkParse(t, "", []parseCase{
		{"http://[::1]", "http://[::1]/"}, {"http://[::1]:81", "http://[::1]:81/"}, {"http://[::1]:80/", "http://[::1]/"}, {"http://[::1]:", "http://[::1]/"}, {"http://u:p@[1:0::]:81/a", "http://u:p@[1::]:81/a"},
		{"x://[::1]:80?q", "x://[::1]:80?q"}, {"x://[::1]", "x://[::1]"}, {"file://[::1]/a", "file://[::1]/a"},
		{"http://[@[::1]", "http://%5B@[::1]/"}, {"http://[a:b]@h:81", "http://%5Ba:b%5D@h:81/"}, {"http://h/[a:b]?[c:d]#[e:f]", "http://h/[a:b]?[c:d]#[e:f]"}, {"x:[a:b]", "x:[a:b]"},
	})
	checkParseErrors(t, "", api.ErrHost, "http://[::1", "http://[::1:80", "http://[::1/]", "http://[::1?]", "http://[::1#]", "http://[::1\\]", "http://[::1@2]", "http://[::1]81", "http://[::1]x:81", "http://[a:b]:x", "http://a[b:1]", "http://a[b:1]:1", "http://a]:80", "http://]", "http://[]:80", "http://[:80", "x://[::1", "x://[:80", "x://[::1]x", "file://[::1", "file://[::1]:80/")
	checkParseErrors(t, "", api.ErrPort, "http://[::1]:x", "http://[::1]:80]", "http://[::1]:[1]", "http://[::1]::80", "x://[::1]:x")
}

func TestP5Dots(t *testing.T) {
	checkParse(t, "", []parseCase{
		{"http://h/a/./b", "http://h/a/b"}, {"http://h/a/.", "http://h/a/"}, {"http://h/.", "http://h/"}, {"http://h/./", "http://h/"},
		{"http://h/a/../b", "http://h/b"}, {"http://h/a/b/..", "http://h/a/"}, {"http://h/a/b/../", "http://h/a/"}, {"http://h/..", "http://h/"}, {"http://h/../../a/../..", "http://h/"}, {"http://h/a//..", "http://h/a/"}, {"http://h/a//../..", "http://h/"}, {"http://h//..", "http://h/"}, {"http://h//../a", "http://h/a"}, {"http://h//.", "http://h//"},
		{"http://h/a/%2e/b", "http://h/a/b"}, {"http://h/a/%2E", "http://h/a/"}, {"http://h/a/b/%2e%2e", "http://h/a/"}, {"http://h/a/b/%2E%2E/c", "http://h/a/c"}, {"http://h/a/b/%2e%2E/c", "http://h/a/c"}, {"http://h/a/b/.%2e/c", "http://h/a/c"}, {"http://h/a/b/%2E.", "http://h/a/"},
		{"http://h/.../b", "http://h/.../b"}, {"http://h/%2e%2e%2e", "http://h/%2e%2e%2e"}, {"http://h/.a/..b/c./d..", "http://h/.a/..b/c./d.."}, {"http://h/a%2e", "http://h/a%2e"}, {"http://h/%2", "http://h/%2"}, {"http://h/%2ee", "http://h/%2ee"}, {"http://h/a/. ./b", "http://h/a/.%20./b"}, {"http://h/%252e", "http://h/%252e"}, {"http://h/a/%%2e", "http://h/a/%%2e"},
		{"http://h/a?../b#../c", "http://h/a?../b#../c"}, {"http://h/a/..?b", "http://h/?b"}, {"http://h/a/.#b", "http://h/a/#b"},
		{"x:/a/..", "x:/"}, {"x:/a/../b", "x:/b"}, {"x:/..", "x:/"}, {"x:/.", "x:/"}, {"x:/%2e%2E/a", "x:/a"}, {"x:..", "x:.."}, {"x:a/../b", "x:a/../b"},
		{"x:/..//p", "x:/.//p"}, {"x:/a/..//p", "x:/.//p"}, {"x:/.//", "x:/.//"}, {"x:/./", "x:/"}, {"x:/a//p", "x:/a//p"}, {"x:////p", "x:////p"}, {"x:/.//../p", "x:/p"},
	})
}

func TestP5OpaquePaths(t *testing.T) {
	checkParse(t, "", []parseCase{
		{"x:", "x:"}, {"x:?", "x:?"}, {"x:#", "x:#"}, {"x:a b\\c|'\"<>`{}^[]@:80", "x:a%20b\\c|'\"<>`{}^[]@:80"}, {"x:\xe9\x7f\x01a", "x:%E9%7F%01a"}, {"x:%41%2e/..", "x:%41%2e/.."}, {"x:a//b", "x:a//b"}, {"x:a?b?c#d?e#f", "x:a?b?c#d?e#f"}, {"x: /", "x:%20/"}, {"x:a '?b '#c '", "x:a%20'?b%20'#c%20'"},
	})
	checkParse(t, "x:a?q#f", []parseCase{{"#", "x:a?q#"}, {"#g h", "x:a?q#g%20h"}, {" \n#?g", "x:a?q#?g"}, {"x:b", "x:b"}, {"http://h", "http://h/"}, {"file:", "file:///"}})
	checkParse(t, "x:a", []parseCase{{"#g", "x:a#g"}})
	checkParseErrors(t, "x:a?q#f", api.ErrRelative, "", "?", "?r", "b", "/b", "//h", "b#g", "?#g", " ", "..", "\\")
}

func TestP5QueriesAndFragments(t *testing.T) {
	checkParse(t, "", []parseCase{
		{"http://h?", "http://h/?"}, {"http://h#", "http://h/#"}, {"http://h?#", "http://h/?#"}, {"http://h#?", "http://h/#?"}, {"http://h/#a?b", "http://h/#a?b"}, {"http://h/?a?b#c#d", "http://h/?a?b#c#d"}, {"http://h?/a/../b#/c/../d", "http://h/?/a/../b#/c/../d"}, {"http://h?a\\b#c\\d", "http://h/?a\\b#c\\d"},
		{"http://h/?%zz+%41#%zz%41", "http://h/?%zz+%41#%zz%41"}, {"x://h?'#'", "x://h?'#'"}, {"file:?'#'", "file:///?%27#'"},
	})
}

// TestP5EachByte holds what each place tells of a byte against the set that
// the document names for it.
func TestP5EachByte(t *testing.T) {
	for i := range 256 {
		b := string([]byte{byte(i)})
		if strings.Contains("\t\n\r", b) {
			continue
		}
		cases := []parseCase{{"http://h/#a" + b + "z", "http://h/#a" + Escape(b, api.Fragment) + "z"}, {"x:#a" + b + "z", "x:#a" + Escape(b, api.Fragment) + "z"}}
		if b != "#" {
			cases = append(cases, parseCase{"http://h/?a" + b + "z", "http://h/?a" + Escape(b, api.Special) + "z"}, parseCase{"x:?a" + b + "z", "x:?a" + Escape(b, api.Query) + "z"})
		}
		if !strings.Contains("#?", b) {
			opaque := strings.ReplaceAll(Escape(b, api.Control), " ", "%20")
			cases = append(cases, parseCase{"x:a" + b + "z", "x:a" + opaque + "z"}, parseCase{"x:/a" + b + "z", "x:/a" + Escape(b, api.Path) + "z"}, parseCase{"x://h/a" + b + "z", "x://h/a" + Escape(b, api.Path) + "z"})
		}
		if !strings.Contains("#?\\", b) {
			cases = append(cases, parseCase{"http://h/a" + b + "z", "http://h/a" + Escape(b, api.Path) + "z"}, parseCase{"file:a" + b + "z", "file:///a" + Escape(b, api.Path) + "z"})
		}
		if !strings.Contains("#?/:", b) {
			cases = append(cases, parseCase{"x://a" + b + "z:a" + b + "z@h", "x://a" + Escape(b, api.User) + "z:a" + Escape(b, api.User) + "z@h"})
		}
		checkParse(t, "", cases)
	}
}

func TestP5BesideSpecial(t *testing.T) {
	checkParse(t, "http://u:p@h:81/a/b/c?q#f", []parseCase{
		{"", "http://u:p@h:81/a/b/c?q"}, {"#", "http://u:p@h:81/a/b/c?q#"}, {"#g?r", "http://u:p@h:81/a/b/c?q#g?r"}, {"?", "http://u:p@h:81/a/b/c?"}, {"?r#g", "http://u:p@h:81/a/b/c?r#g"}, {"?#g", "http://u:p@h:81/a/b/c?#g"},
		{"d", "http://u:p@h:81/a/b/d"}, {"d?r", "http://u:p@h:81/a/b/d?r"}, {"d#g", "http://u:p@h:81/a/b/d#g"}, {"d/e", "http://u:p@h:81/a/b/d/e"}, {"d\\e", "http://u:p@h:81/a/b/d/e"}, {"d/", "http://u:p@h:81/a/b/d/"}, {"d//", "http://u:p@h:81/a/b/d//"},
		{".", "http://u:p@h:81/a/b/"}, {"./", "http://u:p@h:81/a/b/"}, {"..", "http://u:p@h:81/a/"}, {"..\\d", "http://u:p@h:81/a/d"}, {"%2e%2E/d", "http://u:p@h:81/a/d"}, {"../../..", "http://u:p@h:81/"}, {"../../../../d", "http://u:p@h:81/d"},
		{"/", "http://u:p@h:81/"}, {"\\", "http://u:p@h:81/"}, {"/d", "http://u:p@h:81/d"}, {"/d/../e?r", "http://u:p@h:81/e?r"}, {"/?r", "http://u:p@h:81/?r"}, {"/..", "http://u:p@h:81/"},
		{"//i", "http://i/"}, {"//i:80/d", "http://i/d"}, {"\\\\i", "http://i/"}, {"/\\i", "http://i/"}, {"\\//\\i\\d", "http://i/d"}, {"//v@i:82?r", "http://v@i:82/?r"},
		{"http:", "http://u:p@h:81/a/b/c?q"}, {"http:?r", "http://u:p@h:81/a/b/c?r"}, {"http:#g", "http://u:p@h:81/a/b/c?q#g"}, {"HTTP:d", "http://u:p@h:81/a/b/d"}, {"http:../d", "http://u:p@h:81/a/d"}, {"http:/d", "http://u:p@h:81/d"}, {"http:\\d", "http://u:p@h:81/d"}, {"http://i", "http://i/"}, {"http:///i", "http://i/"},
		{"https:d", "https://d/"}, {"https:/d", "https://d/"}, {"ws:d", "ws://d/"}, {"file:d", "file:///d"}, {"x:d", "x:d"}, {"x:/d", "x:/d"}, {"C|/d", "http://u:p@h:81/a/b/C|/d"}, {"/C|/d", "http://u:p@h:81/C|/d"}, {"C:/d", "c:/d"},
	})
	checkParse(t, "http://h", []parseCase{{"", "http://h/"}, {"d", "http://h/d"}, {"..", "http://h/"}, {"?r", "http://h/?r"}})
	checkParse(t, "http://h/a//", []parseCase{{"d", "http://h/a//d"}, {"..", "http://h/a/"}, {"../..", "http://h/"}})
	checkParse(t, "http://h/C:", []parseCase{{"d", "http://h/d"}, {"/d", "http://h/d"}, {"..", "http://h/"}})
	checkParse(t, "http://h/?", []parseCase{{"", "http://h/?"}, {"#", "http://h/?#"}})
	checkParseErrors(t, "http://h/a", api.ErrHost, "//", "///", "\\\\", "//?q", "//u@", "http://", "https:", "https:/", "//a b", "//:80")
	checkParseErrors(t, "http://h/a", api.ErrPort, "//i:x", "http://i:x", "\\\\i:65536")
}

func TestP5BesideOther(t *testing.T) {
	checkParse(t, "x://u:p@h:81/a/b?q#f", []parseCase{
		{"", "x://u:p@h:81/a/b?q"}, {"#g", "x://u:p@h:81/a/b?q#g"}, {"?r'", "x://u:p@h:81/a/b?r'"}, {"d", "x://u:p@h:81/a/d"}, {"d\\..\\e", "x://u:p@h:81/a/d\\..\\e"}, {"..", "x://u:p@h:81/"}, {"../..", "x://u:p@h:81/"},
		{"/", "x://u:p@h:81/"}, {"/d", "x://u:p@h:81/d"}, {"\\d", "x://u:p@h:81/a/\\d"}, {"\\\\d", "x://u:p@h:81/a/\\\\d"}, {"/\\d", "x://u:p@h:81/\\d"},
		{"//i", "x://i"}, {"//i/d", "x://i/d"}, {"//I:80", "x://I:80"}, {"//", "x://"}, {"///", "x:///"}, {"///d", "x:///d"}, {"////d", "x:////d"}, {"//?r", "x://?r"},
		{"x:d", "x:d"}, {"x:/d", "x:/d"}, {"x:", "x:"}, {"http:d", "http://d/"}, {"file:d", "file:///d"},
	})
	checkParse(t, "x:/a/b", []parseCase{{"", "x:/a/b"}, {"d", "x:/a/d"}, {"/d", "x:/d"}, {"//i/d", "x://i/d"}, {"..", "x:/"}, {"..//d", "x:/.//d"}, {"/.//d", "x:/.//d"}, {"///d", "x:///d"}, {"/", "x:/"}})
	checkParse(t, "x:/.//p", []parseCase{{"", "x:/.//p"}, {"d", "x:/.//d"}, {"..", "x:/"}, {"../d", "x:/d"}, {"#g", "x:/.//p#g"}})
	checkParse(t, "x://h", []parseCase{{"", "x://h"}, {"?r", "x://h?r"}, {"d", "x://h/d"}, {".", "x://h/"}, {"..", "x://h/"}, {"/", "x://h/"}})
	checkParse(t, "x://", []parseCase{{"", "x://"}, {"d", "x:///d"}, {"//", "x://"}, {"//i", "x://i"}})
	checkParseErrors(t, "x://h/a", api.ErrHost, "//a b", "//u@", "//:1", "//[", "//i\\d")
	checkParseErrors(t, "x://h/a", api.ErrPort, "//i:x", "//i:65536")
}

func TestP5Files(t *testing.T) {
	checkParse(t, "", []parseCase{
		{"file:", "file:///"}, {"file:/", "file:///"}, {"file://", "file:///"}, {"file:///", "file:///"}, {"file:////", "file:////"}, {"FILE:a/b", "file:///a/b"}, {"file:/a", "file:///a"}, {"file:\\a\\b", "file:///a/b"}, {"file:///a/../b", "file:///b"}, {"file:?q#f", "file:///?q#f"}, {"file:..", "file:///"}, {"file:/..", "file:///"},
		{"file://H", "file://h/"}, {"file://h/a", "file://h/a"}, {"file:\\\\h\\a", "file://h/a"}, {"file:/\\h", "file://h/"}, {"file://h?q", "file://h/?q"}, {"file://h#f", "file://h/#f"}, {"file://h//a", "file://h//a"}, {"file://0x7f.1/", "file://127.0.0.1/"},
		{"file://localhost", "file:///"}, {"file://LOCALHOST/a", "file:///a"}, {"file://%6cocalhost/a", "file:///a"}, {"file://localhost./a", "file://localhost./a"}, {"file://localhosts/a", "file://localhosts/a"}, {"http://localhost/a", "http://localhost/a"}, {"x://localhost/a", "x://localhost/a"}, {"file:localhost/a", "file:///localhost/a"},
	})
	checkParseErrors(t, "", api.ErrHost, "file://a b", "file://h:80/", "file://hh:/", "file://u@h/", "file://%/", "file://256.1/", "file://CC:/", "file://C:x/", "file://1:/", "file://%43|/", "file://C%7C/", "file://|/")
}

func TestP5Drives(t *testing.T) {
	checkParse(t, "", []parseCase{
		{"file:C|", "file:///C:"}, {"file:c:", "file:///c:"}, {"file:C|/a", "file:///C:/a"}, {"file:/C|\\a", "file:///C:/a"}, {"file:///C|", "file:///C:"}, {"file:///z|?q", "file:///z:?q"}, {"file:///Z|#f", "file:///Z:#f"},
		{"file://C|", "file:///C:"}, {"file://C:", "file:///C:"}, {"file://C|/a", "file:///C:/a"}, {"file:\\\\C|\\a", "file:///C:/a"}, {"file://C:?q", "file:///C:?q"}, {"file://C|/..", "file:///C:/"}, {"file://h/C|/a", "file://h/C:/a"}, {"file://localhost/C|/a", "file:///C:/a"}, {"file:////C|", "file:////C|"},
		{"file:///C:/..", "file:///C:/"}, {"file:///C:/../..", "file:///C:/"}, {"file:///C:/a/../../..", "file:///C:/"}, {"file:///C|/%2E%2e/a", "file:///C:/a"}, {"file:///C:/..//..", "file:///C:/"}, {"file:///C:/a/..", "file:///C:/"}, {"file:///C:/a/b/..", "file:///C:/a/"},
		{"file:///a/C|", "file:///a/C|"}, {"file:///a/../C|", "file:///C:"}, {"file:///./C|/", "file:///C:/"}, {"file:///a/C:/../..", "file:///"}, {"file:///CC|", "file:///CC|"}, {"file:///C|a", "file:///C|a"}, {"file:///1|", "file:///1|"}, {"file:///[|", "file:///[|"}, {"file:///C", "file:///C"}, {"file:///C;", "file:///C;"}, {"file:///C|a/..", "file:///"}, {"file:///C%7C/..", "file:///"}, {"file:///C:|/..", "file:///"},
		{"http://h/C|", "http://h/C|"}, {"http://h/C:/..", "http://h/"}, {"x:/C|", "x:/C|"}, {"x:/C:/..", "x:/"}, {"x://h/C|/..", "x://h/"},
	})
}

func TestP5BesideFiles(t *testing.T) {
	checkParse(t, "file://h/a/b?q#f", []parseCase{
		{"", "file://h/a/b?q"}, {"#g", "file://h/a/b?q#g"}, {"#?", "file://h/a/b?q#?"}, {"?r", "file://h/a/b?r"}, {"?", "file://h/a/b?"}, {"d", "file://h/a/d"}, {"..", "file://h/"}, {"../../d", "file://h/d"}, {"/d", "file://h/d"}, {"\\d", "file://h/d"}, {"/", "file://h/"}, {"/..", "file://h/"},
		{"//i/d", "file://i/d"}, {"//", "file:///"}, {"///d", "file:///d"}, {"//localhost/d", "file:///d"}, {"//D|/d", "file:///D:/d"}, {"////d", "file:////d"},
		{"D|", "file://h/D:"}, {"D|/d", "file://h/D:/d"}, {"D|\\d", "file://h/D:/d"}, {"D|?r", "file://h/D:?r"}, {"D|#g", "file://h/D:#g"}, {"D|d", "file://h/a/D|d"}, {"/D|/d", "file://h/D:/d"}, {"./D|", "file://h/a/D|"}, {"DD|", "file://h/a/DD|"},
		{"file:", "file://h/a/b?q"}, {"file:d", "file://h/a/d"}, {"file:/d", "file://h/d"}, {"file:?r", "file://h/a/b?r"}, {"file:D:/d", "file://h/D:/d"}, {"file:///d", "file:///d"}, {"FILE:D:", "file://h/D:"}, {"file:/D:/d", "file://h/D:/d"},
		{"http:d", "http://d/"}, {"x:d", "x:d"}, {"D:/d", "d:/d"},
	})
	checkParse(t, "file://h/a", []parseCase{{"./D|/d", "file://h/D:/d"}, {"D|d", "file://h/D|d"}})
	checkParseErrors(t, "file://h/a", api.ErrHost, "//a b", "//i:80", "//u@i", "file://[", "http:")
	checkParse(t, "http://i/C:/a", []parseCase{{"file:d", "file:///d"}, {"file:/d", "file:///d"}, {"file:", "file:///"}, {"file:?r", "file:///?r"}})
	checkParse(t, "x://i/C:/a", []parseCase{{"file:/d", "file:///d"}, {"file:d", "file:///d"}, {"/d", "x://i/d"}})
}

func TestP5BesideDrives(t *testing.T) {
	checkParse(t, "file:///C:/a/b?q", []parseCase{
		{"", "file:///C:/a/b?q"}, {"d", "file:///C:/a/d"}, {"..", "file:///C:/"}, {"../../..", "file:///C:/"}, {"../../../d", "file:///C:/d"},
		{"/", "file:///C:/"}, {"/d", "file:///C:/d"}, {"\\d", "file:///C:/d"}, {"/..", "file:///C:/"}, {"/../d", "file:///C:/d"}, {"/?r", "file:///C:/?r"}, {"file:/d", "file:///C:/d"}, {"file:\\d", "file:///C:/d"},
		{"/D|", "file:///D:"}, {"/D:/d", "file:///D:/d"}, {"/D|\\d", "file:///D:/d"}, {"/D|?r", "file:///D:?r"}, {"/D:#g", "file:///D:#g"}, {"/D|d", "file:///C:/D|d"}, {"/D:d/e", "file:///C:/D:d/e"}, {"/DD:", "file:///C:/DD:"}, {"/./D|", "file:///C:/D|"}, {"/../D|", "file:///C:/D|"},
		{"D|", "file:///D:"}, {"D|/..", "file:///D:/"}, {"D|d", "file:///C:/a/D|d"}, {"../../D|", "file:///C:/D|"},
		{"//i", "file://i/"}, {"//i/d", "file://i/d"}, {"///d", "file:///d"}, {"//", "file:///"}, {"file:///d", "file:///d"},
	})
	checkParse(t, "file:///C:", []parseCase{{"", "file:///C:"}, {"d", "file:///C:/d"}, {".", "file:///C:/"}, {"..", "file:///C:/"}, {"/d", "file:///C:/d"}, {"/", "file:///C:/"}})
	checkParse(t, "file://h/C|/a", []parseCase{{"/d", "file://h/C:/d"}, {"/D|", "file://h/D:"}})
	checkParse(t, "file:///C:x/a", []parseCase{{"/d", "file:///d"}, {"../d", "file:///d"}})
	checkParse(t, "file:///a/C:/b", []parseCase{{"/d", "file:///d"}, {"../../d", "file:///d"}})
}

func TestP5Long(t *testing.T) {
	longest := "http://h/" + strings.Repeat("a", api.MaxText-9)
	checkParse(t, "", []parseCase{{longest, longest}})
	checkParse(t, longest, []parseCase{{"b", "http://h/b"}, {longest, longest}, {"#f", longest + "#f"}})
	wide := "x:" + strings.Repeat("\xff", api.MaxText-2)
	checkParse(t, "", []parseCase{{wide, "x:" + strings.Repeat("%FF", api.MaxText-2)}})
	checkParse(t, "x:y", []parseCase{{"#" + strings.Repeat(" ", api.MaxText-2) + "f", "x:y#" + strings.Repeat("%20", api.MaxText-2) + "f"}})
	for _, long := range []string{longest + "a", "x:" + strings.Repeat("y", api.MaxText), strings.Repeat(" ", api.MaxText+1), longest + "\n", "http://h:x" + strings.Repeat("a", api.MaxText)} {
		checkParseErrors(t, "", api.ErrLong, long)
		checkParseErrors(t, "http://h/", api.ErrLong, long)
		checkParseErrors(t, "no base", api.ErrLong, long)
		checkParseErrors(t, long, api.ErrLong, "", "b", "http://h/", "http://h:x", long)
	}
}

func TestP5BasesThatAreNone(t *testing.T) {
	for _, base := range []string{" ", "\n", "x", "/a", "//h", "#", "1:", "http:", "http://", "http://a b", "http://h:x", "http://u@", "file://a b", "x://:1", "x://h:65536", "http://[::1"} {
		checkParseErrors(t, base, api.ErrBase, "", "b", "/b", "//i", "#f", "http://i/", "x:b", "file:///", "http://h:x", "http://a b")
	}
}

func TestP5FirstErrorIsTold(t *testing.T) {
	checkParseErrors(t, "", api.ErrHost, "http://a b:x", "http://:x", "http://u@:x", "http://256.1:65536", "http://[::1:x", "http://[1]:x", "x://a b:x", "x://:x", "x://u@:x", "http://u:p@a%:x")
	checkParseErrors(t, "", api.ErrPort, "http://u:p@h:x", "http://h:x/../..", "x://h:x")
	checkParseErrors(t, "", api.ErrRelative, "//a b:x", "//h:x", "a b:x")
	checkParseErrors(t, "x:y", api.ErrRelative, "//a b:x", "//h:x")
	checkParseErrors(t, "y", api.ErrBase, "http://a b:x", "z")
}

func TestP5EveryPort(t *testing.T) {
	for port := range 65536 {
		text := "x://h:" + strconv.Itoa(port)
		if told, errno := Parse(text, ""); told != text || errno != api.OK {
			t.Fatalf("Parse(%q) = %q, %d", text, told, errno)
		}
	}
}
