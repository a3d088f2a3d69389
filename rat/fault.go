package rat

import (
	"errors"
	"strconv"

	"tapewright/api"
)

var (
	errForm = errors.New("not of the form that is asked for")
	errZero = errors.New("nothing is divided by 0")
)

// fault wraps an error with the text at which it came up.
type fault struct {
	text  string
	cause error
}

func (f fault) Error() string { return strconv.Quote(f.text) + ": " + f.cause.Error() }

func (f fault) Unwrap() error { return f.cause }

// powerFault is the error of a power that is not from 0 to api.MaxPower.
type powerFault struct {
	power int
}

func (f powerFault) Error() string {
	return "no power from 0 to " + strconv.Itoa(api.MaxPower) + ": " + strconv.Itoa(f.power)
}

// number is how callers are told of an error, however deep it is wrapped.
func number(err error) api.Errno {
	var beyond powerFault
	switch {
	case errors.Is(err, errForm):
		return api.ErrForm
	case errors.Is(err, errZero):
		return api.ErrZero
	case errors.As(err, &beyond):
		return api.ErrArg
	}
	return api.OK
}
