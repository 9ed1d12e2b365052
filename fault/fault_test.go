package fault

import (
	"errors"
	"testing"

	"moor/api"
)

func TestFaultWraps(t *testing.T) {
	deep := errors.New("deep")
	inner := Fault{api.ErrHost, "host", "h\n", deep}
	outer := Fault{api.ErrBase, "base", "b", inner}
	if !errors.Is(outer, deep) || !errors.Is(outer, inner) {
		t.Error("a fault loses what is within it")
	}
	var found Fault
	if !errors.As(error(outer), &found) || found.Errno != api.ErrBase {
		t.Errorf("errors.As gives %v, not the outermost", found)
	}
	if want := `base "b": host "h\n": deep`; outer.Error() != want {
		t.Errorf("Error() = %s, want %s", outer.Error(), want)
	}
}
