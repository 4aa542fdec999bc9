package bundle

import (
	"errors"

	"freight/api"
)

// How a fault names the call that was refused.
const (
	opMake   = "bundle.make"
	opLook   = "bundle.look"
	opParse  = "bundle.parse"
	opVerify = "bundle.verify"
)

// refuse is an error that is said of no id.
func refuse(op string, why error) error { return refuseID(op, api.ID{}, why) }

func refuseID(op string, id api.ID, why error) error {
	return &api.Fault{Op: op, ID: id, Err: why}
}

// idIn is the id that a lower call's fault names; zero, if it names none.
func idIn(err error) api.ID {
	var lower *api.Fault
	if !errors.As(err, &lower) {
		return api.ID{}
	}
	return lower.ID
}

// numberOf is what comes of an error that read has answered. The number alone
// is kept of it: the error itself belongs to whoever handed in read.
func numberOf(err error) api.Errno {
	if number := api.Code(err); number > api.OK {
		return number
	}
	return api.ErrBundle
}
