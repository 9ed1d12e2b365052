package digit

import (
	"strings"
	"testing"
)

func TestValue(t *testing.T) {
	for i := 0; i < 256; i++ {
		want := uint64(None)
		if n := strings.IndexByte("0123456789abcdef", byte(i)); n >= 0 {
			want = uint64(n)
		} else if n := strings.IndexByte("ABCDEF", byte(i)); n >= 0 {
			want = uint64(n) + 10
		}
		if got := Value(byte(i)); got != want {
			t.Errorf("Value(%d) = %d, want %d", i, got, want)
		}
	}
}

func TestAll(t *testing.T) {
	for _, c := range []struct {
		text string
		base uint64
		want bool
	}{
		{"", 8, true}, {"", 16, true},
		{"01234567", 8, true}, {"8", 8, false}, {"08", 8, false},
		{"0123456789", 10, true}, {"1a", 10, false}, {"-1", 10, false}, {"1.", 10, false},
		{"09afAF", 16, true}, {"g", 16, false}, {"G", 16, false}, {"a\xff", 16, false},
	} {
		if got := All(c.text, c.base); got != c.want {
			t.Errorf("All(%q, %d) = %v", c.text, c.base, got)
		}
	}
}
