package file

import (
	"errors"

	"freight/api"
)

// How a fault names the call that was refused.
const (
	opPut   = "file.put"
	opGet   = "file.get"
	opDrop  = "file.drop"
	opClean = "file.clean"
)

// fault is nil where nothing was refused.
func fault(op, name string, errno api.Errno) error {
	if errno == api.OK {
		return nil
	}
	return &api.Fault{Op: op, Name: name, Err: errno}
}

func isForRoom(err error) bool {
	return errors.Is(err, api.ErrFull) || errors.Is(err, api.ErrFiles)
}
