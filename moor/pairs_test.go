package moor

import (
	"fmt"
	"math/rand"
	"slices"
	"strings"
	"testing"

	"moor/api"
)

func TestP8Pairs(t *testing.T) {
	for _, c := range []struct {
		query string
		want  []api.Pair
	}{
		{"", nil}, {"&", nil}, {"&&&", nil},
		{"a=1&b=%20+&&c", []api.Pair{{Name: "a", Value: "1"}, {Name: "b", Value: "  "}, {Name: "c", Value: ""}}},
		{"a", []api.Pair{{Name: "a", Value: ""}}}, {"a=", []api.Pair{{Name: "a", Value: ""}}}, {"=", []api.Pair{{}}}, {"=&=", []api.Pair{{}, {}}}, {"=a", []api.Pair{{Name: "", Value: "a"}}},
		{"&a=1&", []api.Pair{{Name: "a", Value: "1"}}}, {"a=1&a=1&a=2", []api.Pair{{Name: "a", Value: "1"}, {Name: "a", Value: "1"}, {Name: "a", Value: "2"}}},
		{"a=b=c==", []api.Pair{{Name: "a", Value: "b=c=="}}}, {"==", []api.Pair{{Name: "", Value: "="}}},
		{"+a+b+=+c+", []api.Pair{{Name: " a b ", Value: " c "}}}, {"+", []api.Pair{{Name: " ", Value: ""}}},
		{"%2b%2B=+%2b", []api.Pair{{Name: "++", Value: " +"}}}, {"%26%3d=%3D%26", []api.Pair{{Name: "&=", Value: "=&"}}}, {"%2541=%%34%31", []api.Pair{{Name: "%41", Value: "%41"}}},
		{"%=%4&%zz=%4+1", []api.Pair{{Name: "%", Value: "%4"}, {Name: "%zz", Value: "%4 1"}}},
		{"?a;b#c", []api.Pair{{Name: "?a;b#c", Value: ""}}}, {"a\t\n=\x00 b", []api.Pair{{Name: "a\t\n", Value: "\x00 b"}}}, {"%ff\xff=é%C3%A9", []api.Pair{{Name: "\xff\xff", Value: "éé"}}},
	} {
		if pairs, errno := Pairs(c.query); !slices.Equal(pairs, c.want) || errno != api.OK {
			t.Errorf("Pairs(%q) = %q, %d, want %q", c.query, pairs, errno, c.want)
		}
	}
}

func TestP8PairsAtTheBound(t *testing.T) {
	if pairs, errno := Pairs(strings.Repeat("=&", api.MaxText/2)); len(pairs) != api.MaxText/2 || errno != api.OK {
		t.Errorf("Pairs of the longest: %d, %d", len(pairs), errno)
	}
	for _, query := range []string{strings.Repeat("a", api.MaxText+1), strings.Repeat("&", api.MaxText+1), strings.Repeat("%41", api.MaxText/3+1)} {
		if pairs, errno := Pairs(query); len(pairs) != 0 || errno != api.ErrLong {
			t.Errorf("Pairs of one that is too long: %d, %d", len(pairs), errno)
		}
	}
}

func TestP8Join(t *testing.T) {
	for _, c := range []struct {
		pairs []api.Pair
		want  string
	}{
		{nil, ""}, {[]api.Pair{}, ""}, {[]api.Pair{{}}, "="}, {[]api.Pair{{}, {}}, "=&="},
		{[]api.Pair{{Name: "a", Value: "1"}, {Name: "b", Value: ""}, {Name: "", Value: "c"}, {Name: "a", Value: "1"}}, "a=1&b=&=c&a=1"},
		{[]api.Pair{{Name: "a b", Value: "  "}, {Name: "%20", Value: "%2B+"}}, "a+b=++&%2520=%252B%2B"},
		{[]api.Pair{{Name: "&=?#", Value: "é\x00\n"}}, "%26%3D%3F%23=%C3%A9%00%0A"},
	} {
		if query, errno := Join(c.pairs); query != c.want || errno != api.OK {
			t.Errorf("Join(%q) = %q, %d, want %q", c.pairs, query, errno, c.want)
		}
	}
}

func TestP8JoinOfEachByte(t *testing.T) {
	const stays = "ABCDEFGHIJKLMNOPQRSTUVWXYZabcdefghijklmnopqrstuvwxyz0123456789*-._"
	for i := range 256 {
		text := string([]byte{byte(i)})
		want := fmt.Sprintf("%%%02X", i)
		if i == ' ' {
			want = "+"
		} else if strings.Contains(stays, text) {
			want = text
		}
		if query, errno := Join([]api.Pair{{Name: text, Value: "a" + text + "a"}}); query != want+"=a"+want+"a" || errno != api.OK {
			t.Errorf("Join of byte %d = %q, %d, want %q", i, query, errno, want)
		}
	}
}

func TestP8JoinAtTheBound(t *testing.T) {
	half := strings.Repeat("\xff", api.MaxText/2)
	many := make([]api.Pair, 3*api.MaxText)
	for i := range api.MaxText / 2 {
		many[i] = api.Pair{Name: "a", Value: "b"}
	}
	for _, pairs := range [][]api.Pair{{{Name: half, Value: half}}, {{Name: half, Value: ""}, {}, {Name: "", Value: half}}, {{Name: half + half, Value: ""}}, many} {
		if query, errno := Join(pairs); query == "" || errno != api.OK {
			t.Errorf("Join of %d pairs of the longest: %d, %d", len(pairs), len(query), errno)
		}
		for _, one := range []api.Pair{{Name: "a", Value: ""}, {Name: "", Value: "a"}} {
			for _, longer := range [][]api.Pair{append(slices.Clone(pairs), one), append([]api.Pair{one}, pairs...)} {
				if query, errno := Join(longer); query != "" || errno != api.ErrLong {
					t.Errorf("Join of %d pairs that are too long: %d, %d", len(longer), len(query), errno)
				}
			}
		}
	}
}

func TestP9PairsOfWhatJoinTold(t *testing.T) {
	source := rand.New(rand.NewSource(6))
	texts := append([]string{"+", "%20", "%2B", "&", "=", "a=b&c"}, strange()[:60]...)
	for range 20000 {
		pairs := make([]api.Pair, source.Intn(5))
		for i := range pairs {
			pairs[i] = api.Pair{Name: texts[source.Intn(len(texts))], Value: texts[source.Intn(len(texts))]}
		}
		query, errno := Join(pairs)
		if errno != api.OK || len(query) > api.MaxText {
			continue
		}
		if again, errno := Pairs(query); !slices.Equal(again, pairs) || errno != api.OK {
			t.Fatalf("Join(%q) = %q, of which Pairs are %q, %d", pairs, query, again, errno)
		}
	}
}
