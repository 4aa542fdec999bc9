package reader

import (
	"freight/api"
	"freight/disk"
)

// How a fault names the call that was refused.
const (
	opOpen = "reader.open"
	opGet  = "reader.get"
)

// bundleFile is where a bundle lies.
type bundleFile struct {
	disk *disk.Disk
	name string
}

func (f bundleFile) isOff() bool { return f.disk.Off() }

// read answers nil where nothing was refused: an Errno that is OK is an error
// too, once it stands in an interface.
func (f bundleFile) read(at, n int) ([]byte, error) {
	data, errno := f.disk.Read(f.name, at, n)
	if errno != api.OK {
		return nil, errno
	}
	return data, nil
}

// refuse is an error that is said of no id.
func (f bundleFile) refuse(op string, why error) error {
	return f.refuseID(op, api.ID{}, why)
}

func (f bundleFile) refuseID(op string, id api.ID, why error) error {
	return &api.Fault{Op: op, Name: f.name, ID: id, Err: why}
}
