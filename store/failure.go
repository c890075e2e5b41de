package store

import (
	"errors"

	"ouroboros/api"
)

// failure is what could not be done to a store, and the number of the error that it met.
type failure struct {
	doing  string
	number api.Errno
}

func (f failure) Error() string { return f.doing + ": " + f.number.Error() }

func (f failure) Unwrap() error { return f.number }

// failureOf is no error, if the number is none.
func failureOf(doing string, number api.Errno) error {
	if number == api.OK {
		return nil
	}
	return failure{doing, number}
}

// numberOf is the number that an error wraps; OK, if there is no error.
func numberOf(err error) api.Errno {
	var number api.Errno
	if !errors.As(err, &number) {
		return api.OK
	}
	return number
}
