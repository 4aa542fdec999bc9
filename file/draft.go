package file

import (
	"freight/api"
	"freight/disk"
)

// draft is a file that is being put: it has another name until all of its
// bytes are safe.
type draft struct {
	disk       *disk.Disk
	name, plus string
	changed    bool // whether names were changed
}

// lay leaves nothing behind of what was begun, where there was no room for it.
func lay(f *draft, data []byte) (err error) {
	defer func() {
		if !f.changed || !isForRoom(err) {
			return
		}
		if errno := f.takeBack(); errno != api.OK {
			err = fault(opPut, f.name, errno)
		}
	}()
	if errno := f.begin(); errno != api.OK {
		return fault(opPut, f.name, errno)
	}
	return fault(opPut, f.name, f.finish(data))
}

// begin makes a draft without bytes. Another may lie there since a crash.
func (f *draft) begin() api.Errno {
	if errno := f.clear(); errno != api.OK {
		return errno
	}
	if errno := f.disk.Create(f.plus); errno != api.OK {
		return errno
	}
	f.changed = true
	return api.OK
}

// finish gives the draft its bytes, and once they are safe its own name.
func (f *draft) finish(data []byte) api.Errno {
	if errno := f.disk.Append(f.plus, data); errno != api.OK {
		return errno
	}
	if errno := f.disk.Sync(f.plus); errno != api.OK {
		return errno
	}
	if errno := f.disk.Rename(f.plus, f.name); errno != api.OK {
		return errno
	}
	return f.disk.SyncNames()
}

// takeBack leaves no draft to a crash, nor the one that lay there.
func (f *draft) takeBack() api.Errno {
	if errno := f.clear(); errno != api.OK {
		return errno
	}
	return f.disk.SyncNames()
}

func (f *draft) clear() api.Errno {
	if _, errno := f.disk.Size(f.plus); errno == api.ErrNone {
		return api.OK
	}
	f.changed = true
	return f.disk.Remove(f.plus)
}
