package moor

import (
	"strings"
	"testing"

	"moor/api"
)

func TestP6Split(t *testing.T) {
	for _, c := range []struct {
		text string
		want api.Parts
	}{
		{"HTTP://U:P@H:81/a/./b?q#f", api.Parts{Scheme: "http", User: "U", Password: "P", HasHost: true, Host: "h", Port: 81, Path: "/a/b", HasQuery: true, Query: "q", HasFragment: true, Fragment: "f"}},
		{"https://h:443", api.Parts{Scheme: "https", HasHost: true, Host: "h", Port: -1, Path: "/"}},
		{"ws://h:0?#", api.Parts{Scheme: "ws", HasHost: true, Host: "h", Port: 0, Path: "/", HasQuery: true, HasFragment: true}},
		{"wss://a b@h/ ?' #'", api.Parts{Scheme: "wss", User: "a%20b", HasHost: true, Host: "h", Port: -1, Path: "/%20", HasQuery: true, Query: "%27%20", HasFragment: true, Fragment: "'"}},
		{"ftp://:p@[::0]:65535/..", api.Parts{Scheme: "ftp", Password: "p", HasHost: true, Host: "[::]", Port: 65535, Path: "/"}},
		{"file:C|/a", api.Parts{Scheme: "file", HasHost: true, Port: -1, Path: "/C:/a"}},
		{"file://h", api.Parts{Scheme: "file", HasHost: true, Host: "h", Port: -1, Path: "/"}},
		{"file:////a", api.Parts{Scheme: "file", HasHost: true, Port: -1, Path: "//a"}},
		{"x:", api.Parts{Scheme: "x", Port: -1, Opaque: true}},
		{"x:a b?", api.Parts{Scheme: "x", Port: -1, Opaque: true, Path: "a%20b", HasQuery: true}},
		{"x:#f", api.Parts{Scheme: "x", Port: -1, Opaque: true, HasFragment: true, Fragment: "f"}},
		{"x:/", api.Parts{Scheme: "x", Port: -1, Path: "/"}},
		{"x:/..//p", api.Parts{Scheme: "x", Port: -1, Path: "//p"}},
		{"x:/.//", api.Parts{Scheme: "x", Port: -1, Path: "//"}},
		{"x://", api.Parts{Scheme: "x", HasHost: true, Port: -1}},
		{"x:////p", api.Parts{Scheme: "x", HasHost: true, Port: -1, Path: "//p"}},
		{"X://u:@H:80?q", api.Parts{Scheme: "x", User: "u", HasHost: true, Host: "H", Port: 80, HasQuery: true, Query: "q"}},
	} {
		if parts, errno := Split(c.text); parts != c.want || errno != api.OK {
			t.Errorf("Split(%q) = %+v, %d, want %+v", c.text, parts, errno, c.want)
		}
	}
}

func TestP6Origin(t *testing.T) {
	for text, want := range map[string]string{
		"http://u:p@H:81/a?q#f": "http://h:81", "http://h:80": "http://h", "https://h:443/": "https://h", "https://h:80/": "https://h:80", "ws://:p@h": "ws://h", "WSS:h": "wss://h", "ftp://[0::1]:22": "ftp://[::1]:22", "http://0x7f.1:0": "http://127.0.0.1:0",
		"file:": "null", "file://h/a": "null", "x:": "null", "x:a": "null", "x:/a": "null", "x://h:80/a": "null", "httpx://h": "null",
	} {
		if origin, errno := Origin(text); origin != want || errno != api.OK {
			t.Errorf("Origin(%q) = %q, %d, want %q", text, origin, errno, want)
		}
	}
}

func TestP6Errors(t *testing.T) {
	for _, c := range []struct {
		errno api.Errno
		texts []string
	}{
		{api.ErrRelative, []string{"", " ", "a", "/a", "//h:x", "?q", "#f", "1:a"}},
		{api.ErrHost, []string{"http:", "http://u@", "http://a b:x", "x://:1", "file://h:80/", "http://[::1"}},
		{api.ErrPort, []string{"http://h:x", "x://h:65536", "ftp://h:-1/"}},
		{api.ErrLong, []string{strings.Repeat("a", api.MaxText+1), "x:" + strings.Repeat("a", api.MaxText-1), "http://h:" + strings.Repeat("x", api.MaxText)}},
	} {
		for _, text := range c.texts {
			if parts, errno := Split(text); parts != (api.Parts{}) || errno != c.errno {
				t.Errorf("Split(%.30q) = %+v, %d, want error %d", text, parts, errno, c.errno)
			}
			if origin, errno := Origin(text); origin != "" || errno != c.errno {
				t.Errorf("Origin(%.30q) = %q, %d, want error %d", text, origin, errno, c.errno)
			}
		}
	}
}

func TestP6Longest(t *testing.T) {
	path := strings.Repeat("\xff", api.MaxText-2)
	want := api.Parts{Scheme: "x", Port: -1, Opaque: true, Path: strings.Repeat("%FF", api.MaxText-2)}
	if parts, errno := Split("x:" + path); parts != want || errno != api.OK {
		t.Errorf("Split of the longest: %d", errno)
	}
	if origin, errno := Origin("x:" + path); origin != "null" || errno != api.OK {
		t.Errorf("Origin of the longest: %q, %d", origin, errno)
	}
}
