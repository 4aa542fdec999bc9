package cache

import (
	"errors"

	"freight/api"
)

// How a fault names the call that was refused.
const (
	opOpen  = "cache.open"
	opGet   = "cache.get"
	opBlobs = "cache.blobs"
	opTable = "cache.table"
	opAll   = "cache.all"
	opPut   = "cache.put"
	opSet   = "cache.set"
	opDrop  = "cache.drop"
	opLay   = "cache.lay"
	opSwap  = "cache.swap"
)

// refuse says why a call was refused: a number, or the fault of a lower call,
// whose id is said again.
func (c *Cache) refuse(op string, why error) error {
	return c.refuseID(op, idIn(why), why)
}

func (c *Cache) refuseID(op string, id api.ID, why error) error {
	return &api.Fault{Op: op, Name: c.Name(), ID: id, Err: why}
}

// idIn is the id that a lower call's fault names; zero, if it names none.
func idIn(err error) api.ID {
	var lower *api.Fault
	if !errors.As(err, &lower) {
		return api.ID{}
	}
	return lower.ID
}
