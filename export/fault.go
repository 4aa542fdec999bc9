package export

import (
	"errors"

	"freight/api"
)

// How a fault names the call that was refused.
const (
	opBuild  = "export.build"
	opExport = "export.export"
)

// refuse says why a call was refused: a number, or the fault of a lower call,
// whose id is said again.
func (c call) refuse(why error) error {
	return c.refuseID(idIn(why), why)
}

func (c call) refuseID(id api.ID, why error) error {
	return &api.Fault{Op: c.op, Name: c.cache.Name(), ID: id, Err: why}
}

// idIn is the id that a lower call's fault names; zero, if it names none.
func idIn(err error) api.ID {
	var lower *api.Fault
	if !errors.As(err, &lower) {
		return api.ID{}
	}
	return lower.ID
}

// numberIn is the number that a lower call's fault wraps; OK, if there is none.
func numberIn(err error) api.Errno {
	var number api.Errno
	if !errors.As(err, &number) {
		return api.OK
	}
	return number
}
