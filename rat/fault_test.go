package rat

import (
	"errors"
	"math"
	"strings"
	"testing"

	"tapewright/api"
)

// P3.1: an error's number is told through whatever is wrapped around it.
func TestNumberThroughWraps(t *testing.T) {
	for _, c := range []struct {
		err  error
		want api.Errno
	}{
		{errForm, api.ErrForm},
		{errZero, api.ErrZero},
		{powerFault{7}, api.ErrArg},
	} {
		err := c.err
		for range 4 {
			if got := number(err); got != c.want {
				t.Errorf("%s: %d, not %d", err, got, c.want)
			}
			err = fault{"1/2", err}
		}
	}
	if got := number(nil); got != api.OK {
		t.Errorf("no error: %d", got)
	}
}

// P3.1: inside, an error keeps at what it came up.
func TestFaultKeepsItsPlace(t *testing.T) {
	var at fault
	if _, err := parse("2/4"); !errors.Is(err, errForm) || !errors.As(err, &at) || at.text != "2/4" || !strings.Contains(err.Error(), "2/4") {
		t.Errorf("parse: %v", err)
	}
	if _, _, err := parseBoth("1/2", "x"); !errors.As(err, &at) || at.text != "x" {
		t.Errorf("parseBoth: %v", err)
	}
	if _, err := made("1", "0"); !errors.Is(err, errZero) || errors.Is(err, errForm) {
		t.Errorf("made: %v", err)
	}
	if _, err := quotient(fraction{"1", "2"}, fraction{"0", "1"}); !errors.Is(err, errZero) {
		t.Errorf("quotient: %v", err)
	}
	var beyond powerFault
	if _, err := raised(fraction{"1", "2"}, math.MinInt); !errors.As(err, &beyond) || beyond.power != math.MinInt || err.Error() == "" {
		t.Errorf("raised: %v", err)
	}
}
