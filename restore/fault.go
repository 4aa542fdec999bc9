package restore

import (
	"errors"

	"freight/api"
)

// How a fault names the call that was refused.
const (
	opPick    = "restore.pick"
	opRestore = "restore.restore"
)

// refuse says why a call was refused: a number, or the fault of a lower call,
// whose id is said again.
func refuse(op, name string, why error) error {
	return refuseID(op, name, idIn(why), why)
}

func refuseID(op, name string, id api.ID, why error) error {
	return &api.Fault{Op: op, Name: name, ID: id, Err: why}
}

// idIn is the id that a lower call's fault names; zero, if it names none.
func idIn(err error) api.ID {
	var lower *api.Fault
	if !errors.As(err, &lower) {
		return api.ID{}
	}
	return lower.ID
}
