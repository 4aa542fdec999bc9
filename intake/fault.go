package intake

import (
	"errors"

	"freight/api"
)

// How a fault names the call that was refused.
const (
	opImport  = "intake.import"
	opPart    = "intake.part"
	opResume  = "intake.resume"
	opAbandon = "intake.abandon"
	opJournal = "intake.journal"
	opEncode  = "intake.encode"
	opDecode  = "intake.decode"
)

// refuse is an error that is said of no id.
func refuse(op, name string, why error) error {
	return &api.Fault{Op: op, Name: name, Err: why}
}

// refuse says why a call was refused: a number, or the fault of a lower call,
// whose id is said again.
func (c *call) refuse(why error) error {
	return c.refuseID(idIn(why), why)
}

// refuseID names no id where the power is off: that is not said of one, whatever
// the lower call was about.
func (c *call) refuseID(id api.ID, why error) error {
	if errors.Is(why, api.ErrOff) {
		return refuse(c.op, c.cache.Name(), why)
	}
	return &api.Fault{Op: c.op, Name: c.cache.Name(), ID: id, Err: why}
}

// idIn is the id that a lower call's fault names; zero, if it names none.
func idIn(err error) api.ID {
	var lower *api.Fault
	if !errors.As(err, &lower) {
		return api.ID{}
	}
	return lower.ID
}

// unlike is a lower call's error by which the bundle is not the one that the
// import began with: the number ahead of that error counts.
type unlike struct {
	lower error
}

// other says ErrOther of a lower call's error; but a disk that is off tells
// nothing of a bundle.
func other(lower error) error {
	if errors.Is(lower, api.ErrOff) {
		return lower
	}
	return &unlike{lower}
}

// Error tells it in words.
func (u *unlike) Error() string { return api.ErrOther.Error() + ": " + u.lower.Error() }

// Unwrap is the number, and then what the lower call said.
func (u *unlike) Unwrap() []error { return []error{api.ErrOther, u.lower} }
