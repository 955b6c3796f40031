package sheet

import (
	"errors"
	"strconv"

	"verge/api"
)

// placed is an error with its place in what was handed to a call.
type placed struct {
	e  api.Errno
	at int
}

func (p placed) Error() string { return complaint(p) }

func (p placed) Unwrap() error { return p.e }

// complaint tells the line that is said of an error.
func complaint(err error) string {
	text := "error"
	var e api.Errno
	if errors.As(err, &e) {
		text += " " + strconv.Itoa(int(e))
	}
	var p placed
	if errors.As(err, &p) {
		text += " " + strconv.Itoa(p.at)
	}
	return text
}
