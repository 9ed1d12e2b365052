package host

import (
	"errors"
	"fmt"
	"math/rand"
	"net/netip"
	"strings"
	"testing"

	"moor/api"
	"moor/fault"
)

func TestFaultsAreWrappedToTheBottom(t *testing.T) {
	for _, c := range []struct {
		text    string
		special bool
		want    string
	}{
		{"", true, `host "": empty`},
		{"a b", true, `host "a b": byte 32 at place 1`},
		{"a:b", false, `host "a:b": byte 58 at place 1`},
		{"[::", true, `host "[::": no ] at the end`},
		{"1.2.3.4.5", true, `host "1.2.3.4.5": IP4 "1.2.3.4.5": too many or too few numbers`},
		{"X.1", true, `host "X.1": IP4 "x.1": number "x": byte 120 at place 0`},
		{"1..1", true, `host "1..1": IP4 "1..1": number "": empty`},
		{"256.1", true, `host "256.1": IP4 "256.1": number "256": too great`},
		{"[1:2]", true, `host "[1:2]": IP6 "1:2": too many or too few numbers`},
		{"[12345::]", true, `host "[12345::]": IP6 "12345::": piece "12345": not of one to four digits`},
		{"[::1g]", false, `host "[::1g]": IP6 "::1g": piece "1g": byte 103 at place 1`},
		{"[::1.2.3.04]", true, `host "[::1.2.3.04]": IP6 "::1.2.3.04": piece "1.2.3.04": number "04": a nought ahead`},
		{"[::1.2.3]", true, `host "[::1.2.3]": IP6 "::1.2.3": piece "1.2.3": too many or too few numbers`},
	} {
		told, err := Tell(c.text, c.special)
		if err == nil || told != "" {
			t.Errorf("Tell(%q) = %q, %v", c.text, told, err)
			continue
		}
		if err.Error() != c.want {
			t.Errorf("Tell(%q): %s, want %s", c.text, err, c.want)
		}
		var outer fault.Fault
		if !errors.As(err, &outer) || outer.Errno != api.ErrHost {
			t.Errorf("Tell(%q): no fault with ErrHost", c.text)
		}
	}
}

func TestLayersAreFoundByTheirTypes(t *testing.T) {
	_, err := Tell("[::1.2.3.4x]", true)
	var six IP6Error
	var piece PieceError
	var number NumberError
	var wrong ByteError
	if !errors.As(err, &six) || six.Text != "::1.2.3.4x" {
		t.Errorf("IP6Error: %v", six)
	}
	if !errors.As(err, &piece) || piece.Text != "1.2.3.4x" {
		t.Errorf("PieceError: %v", piece)
	}
	if !errors.As(err, &number) || number.Text != "4x" {
		t.Errorf("NumberError: %v", number)
	}
	if !errors.As(err, &wrong) || wrong != (ByteError{1, 'x'}) {
		t.Errorf("ByteError: %v", wrong)
	}
	_, err = Tell("1.0x1.08", true)
	var four IP4Error
	if !errors.As(err, &four) || !errors.As(err, &number) || number.Text != "08" || errors.As(err, &piece) {
		t.Errorf("of an IP4: %v", err)
	}
}

func TestEachByteOfAHost(t *testing.T) {
	const never = "\x00\t\n\r #/:<>?@[\\]^|"
	for i := 0; i < 256; i++ {
		b := byte(i)
		text := "a" + string([]byte{b}) + "b"
		marks := strings.IndexByte(never, b) >= 0
		_, err := Tell(text, false)
		if (err != nil) != marks {
			t.Errorf("Tell(%q, false): %v", text, err)
		}
		bad := marks || i < 32 || i > 126 || b == '%'
		for _, form := range []string{text, fmt.Sprintf("a%%%02xb", i)} {
			told, err := Tell(form, true)
			if (err != nil) != bad {
				t.Errorf("Tell(%q, true): %v", form, err)
			}
			if err == nil && told != strings.ToLower(text) {
				t.Errorf("Tell(%q, true) = %q", form, told)
			}
		}
	}
}

// TestIP6BesideTheLibrary makes texts of an IP6's own bytes and holds what is
// told of them against the library's reader.
func TestIP6BesideTheLibrary(t *testing.T) {
	source := rand.New(rand.NewSource(1))
	parts := []string{":", ":", ":", "::", "0", "0", "1", "0000", "00a", "ABCD", "12345", "1.2.3.4", "255.0.0.1", "256.1.1.1", "01.1.1.1", ".", "g"}
	good := 0
	for range 300000 {
		text := randomIP6(source, parts)
		want, wantErr := netip.ParseAddr(text)
		told, err := Tell("["+text+"]", source.Intn(2) == 0)
		if (err == nil) != (wantErr == nil && want.Is6()) {
			t.Fatalf("Tell([%s]) = %q, %v, but the library: %v", text, told, err, wantErr)
		}
		if err != nil {
			continue
		}
		good++
		if told != "["+tellByLibrary(want)+"]" {
			t.Fatalf("Tell([%s]) = %q, but the library: %s", text, told, want)
		}
	}
	if good < 1000 {
		t.Errorf("only %d were any", good)
	}
}

func randomIP6(source *rand.Rand, parts []string) string {
	var out strings.Builder
	if source.Intn(2) == 0 {
		for range source.Intn(12) {
			out.WriteString(parts[source.Intn(len(parts))])
		}
		return out.String()
	}
	count := 6 + source.Intn(4)
	for i := range count {
		if i > 0 {
			out.WriteString(":")
		}
		if source.Intn(10) > 0 {
			out.WriteString(parts[4+source.Intn(6)])
		}
	}
	return out.String()
}

// tellByLibrary: the library tells those that begin with ::ffff: with dots at
// their end, and the document does not.
func tellByLibrary(address netip.Addr) string {
	if !address.Is4In6() {
		return address.String()
	}
	bytes := address.As16()
	return fmt.Sprintf("::ffff:%x:%x", uint(bytes[12])<<8|uint(bytes[13]), uint(bytes[14])<<8|uint(bytes[15]))
}

func TestIP4OfEachShape(t *testing.T) {
	for bits := range 32 {
		n := uint64(1)<<bits | 1
		want := fmt.Sprintf("%d.%d.%d.%d", n>>24, n>>16&255, n>>8&255, n&255)
		for _, text := range []string{
			fmt.Sprintf("%d", n), fmt.Sprintf("0x%x", n), fmt.Sprintf("0X%X.", n), fmt.Sprintf("0%o", n), fmt.Sprintf("0x00000000000000000000%x", n), fmt.Sprintf("000000000000000000000%o", n),
			fmt.Sprintf("%d.%d", n>>24, n&0xffffff), fmt.Sprintf("0x%x.0%o", n>>24, n&0xffffff),
			fmt.Sprintf("%d.%d.%d", n>>24, n>>16&255, n&0xffff), want, want + ".",
		} {
			if told, err := Tell(text, true); told != want || err != nil {
				t.Errorf("Tell(%q) = %q, %v, want %s", text, told, err, want)
			}
		}
	}
}
