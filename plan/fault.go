package plan

import (
	"errors"

	"freight/api"
)

// How a fault names the call that was refused.
const opOf = "plan.of"

// refuse says why the call was refused: a number, or the fault of a lower call.
func (c call) refuse(why error) error {
	return c.refuseID(api.ID{}, why)
}

func (c call) refuseID(id api.ID, why error) error {
	return &api.Fault{Op: opOf, Name: c.cache.Name(), ID: id, Err: why}
}

// told is a source's error behind the number that is answered of it. The source's
// own may have none, or one that is no error's: the number ahead of it counts.
type told struct {
	number api.Errno
	source error
}

func tell(err error) error {
	return &told{number: numberIn(err), source: err}
}

// numberIn is what is answered of a source's error, however deep the source has
// wrapped its number.
func numberIn(err error) api.Errno {
	var number api.Errno
	if !errors.As(err, &number) || number < 1 {
		return api.ErrMissing
	}
	return number
}

// Error tells it in words.
func (t *told) Error() string { return t.number.Error() + ": " + t.source.Error() }

// Unwrap is the number, and then what the source said.
func (t *told) Unwrap() []error { return []error{t.number, t.source} }
