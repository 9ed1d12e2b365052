package escape

import (
	"fmt"
	"strings"
	"testing"

	"moor/api"
)

// Bytes of each set between 32 and 126, written out whole, so that no set of
// the test hangs on another one.
var wanted = map[int]string{
	api.Control:   "",
	api.Fragment:  " \"<>`",
	api.Query:     " \"#<>",
	api.Special:   " \"#<>'",
	api.Path:      " \"#<>?^`{}",
	api.User:      " \"#<>?^`{}/:;=@[\\]|",
	api.Component: " \"#<>?^`{}/:;=@[\\]|$%&+,",
}

func TestEachByteOfEachSet(t *testing.T) {
	for set, bytes := range wanted {
		for i := 0; i < 256; i++ {
			b := byte(i)
			in := i < 32 || i > 126 || strings.IndexByte(bytes, b) >= 0
			if got := Holds(set, b); got != in {
				t.Errorf("Holds(%d, %d) = %v", set, i, got)
			}
			want := string([]byte{b})
			if in {
				want = fmt.Sprintf("%%%02X", i)
			}
			if got := Text(string([]byte{b}), set); got != want {
				t.Errorf("Text(byte %d, %d) = %q, want %q", i, set, got, want)
			}
		}
	}
}

func TestEachByteOfAPair(t *testing.T) {
	const stays = "ABCDEFGHIJKLMNOPQRSTUVWXYZabcdefghijklmnopqrstuvwxyz0123456789*-._"
	for i := range 256 {
		text := string([]byte{byte(i)})
		want := fmt.Sprintf("%%%02X", i)
		if strings.Contains(stays, text) {
			want = text
		}
		if got := Pair(text); got != want {
			t.Errorf("Pair(byte %d) = %q, want %q", i, got, want)
		}
	}
}

func TestNoSet(t *testing.T) {
	for _, set := range []int{-1, 7, 8, 63, 64, 256, 1 << 40, -1 << 63, 1<<63 - 1} {
		for i := 0; i < 256; i++ {
			if Holds(set, byte(i)) {
				t.Errorf("Holds(%d, %d)", set, i)
			}
		}
	}
}

func TestUndo(t *testing.T) {
	for i := 0; i < 256; i++ {
		for _, form := range []string{"%%%02x", "%%%02X"} {
			text := fmt.Sprintf(form, i)
			if got := Undo("<" + text + ">"); got != "<"+string([]byte{byte(i)})+">" {
				t.Errorf("Undo(%q) = %q", text, got)
			}
		}
	}
}

func TestUndoLeavesWhatIsNoEscape(t *testing.T) {
	for _, text := range []string{"", "a", "%", "%%", "%%%", "%4", "%g1", "%1g", "% 1", "%-1", "%+1", "%0x", "a%", "\xff%", "+"} {
		if got := Undo(text); got != text {
			t.Errorf("Undo(%q) = %q", text, got)
		}
	}
}

func TestUndoGoesOnceOnly(t *testing.T) {
	for text, want := range map[string]string{"%2541": "%41", "%%341": "%41", "%25%34%31": "%41", "%%41": "%A", "%4%41": "%4A"} {
		if got := Undo(text); got != want {
			t.Errorf("Undo(%q) = %q, want %q", text, got, want)
		}
	}
}
