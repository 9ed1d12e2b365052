package fields

import (
	"slices"
	"testing"

	"moor/api"
)

func TestReadAndTell(t *testing.T) {
	for told, pairs := range map[string][]api.Pair{
		"":              nil,
		"=":             {{}},
		"=&=":           {{}, {}},
		"a=1&b=":        {{Name: "a", Value: "1"}, {Name: "b", Value: ""}},
		"a+%2B=%2520+":  {{Name: "a +", Value: "%20 "}},
		"%26=%3D&%3D=1": {{Name: "&", Value: "="}, {Name: "=", Value: "1"}},
	} {
		if got := Read(told); !slices.Equal(got, pairs) {
			t.Errorf("Read(%q) = %q, want %q", told, got, pairs)
		}
		if got := Tell(pairs); got != told {
			t.Errorf("Tell(%q) = %q, want %q", pairs, got, told)
		}
	}
}

func TestReadLeavesOutWhatIsEmpty(t *testing.T) {
	for _, query := range []string{"&", "&&", "&&&&"} {
		if got := Read(query); len(got) != 0 {
			t.Errorf("Read(%q) = %q", query, got)
		}
	}
	if got := Read("&a&&b&"); len(got) != 2 {
		t.Errorf("of two names: %q", got)
	}
}
