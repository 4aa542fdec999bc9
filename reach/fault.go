package reach

import (
	"errors"

	"freight/api"
)

// How a fault names the call that was refused.
const (
	opGet   = "reach.get"
	opNeed  = "reach.need"
	opLacks = "reach.lacks"
)

func fault(op string, id api.ID, why error) error {
	return &api.Fault{Op: op, ID: id, Err: why}
}

// tellsOfALack parts an id that is not there from a source that cannot look,
// however deep the source has wrapped the number that says it.
func tellsOfALack(err error) bool {
	var errno api.Errno
	if !errors.As(err, &errno) {
		return false
	}
	return errno == api.ErrNoBlob || errno == api.ErrDamage
}
