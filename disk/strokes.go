package disk

import "freight/api"

// Create makes an empty file.
func (d *Disk) Create(name string) api.Errno {
	_, errno := d.find(name)
	if errno == api.OK {
		return api.ErrThere
	}
	if errno != api.ErrNone {
		return errno
	}
	refused := d.refusedRoom(0)
	if len(d.names.shown) >= api.MaxFiles {
		refused = api.ErrFiles
	}
	answer := d.stroke(refused)
	if refused == api.OK {
		d.names.change(making{name, &thing{}})
	}
	return answer
}

// WriteAt writes bytes over those from a place on, and behind.
func (d *Disk) WriteAt(name string, at int, data []byte) api.Errno {
	t, errno := d.find(name)
	if errno != api.OK {
		return errno
	}
	if at < 0 || at > len(t.shown) {
		return api.ErrBeyond
	}
	return d.write(t, at, data)
}

// Append writes bytes behind a file.
func (d *Disk) Append(name string, data []byte) api.Errno {
	t, errno := d.find(name)
	if errno != api.OK {
		return errno
	}
	return d.write(t, len(t.shown), data)
}

func (d *Disk) write(t *thing, at int, data []byte) api.Errno {
	refused := d.refusedRoom(at + len(data) - len(t.shown))
	answer := d.stroke(refused)
	if refused == api.OK {
		t.change(write{at, string(data)})
	}
	return answer
}

// Truncate cuts a file.
func (d *Disk) Truncate(name string, n int) api.Errno {
	t, errno := d.find(name)
	if errno != api.OK {
		return errno
	}
	if n < 0 || n > len(t.shown) {
		return api.ErrBeyond
	}
	t.change(cut{n})
	return d.stroke(api.OK)
}

// Rename gives a file another name, in the place of one that has it.
func (d *Disk) Rename(from, to string) api.Errno {
	if d.Off() {
		return api.ErrOff
	}
	if !isName(to) {
		return api.ErrName
	}
	if _, errno := d.find(from); errno != api.OK {
		return errno
	}
	if from != to {
		d.names.change(giving{from, to})
	}
	return d.stroke(api.OK)
}

// Remove takes a name away.
func (d *Disk) Remove(name string) api.Errno {
	if _, errno := d.find(name); errno != api.OK {
		return errno
	}
	d.names.change(taking{name})
	return d.stroke(api.OK)
}

// Sync makes all changes of a file's bytes safe.
func (d *Disk) Sync(name string) api.Errno {
	t, errno := d.find(name)
	if errno != api.OK {
		return errno
	}
	answer := d.stroke(api.OK)
	if answer == api.OK {
		t.sync()
	}
	return answer
}

// SyncNames makes all changes of names safe.
func (d *Disk) SyncNames() api.Errno {
	if d.Off() {
		return api.ErrOff
	}
	answer := d.stroke(api.OK)
	if answer == api.OK {
		d.names.sync()
	}
	return answer
}

// find is the thing of a name, or why there is none.
func (d *Disk) find(name string) (*thing, api.Errno) {
	if d.Off() {
		return nil, api.ErrOff
	}
	if !isName(name) {
		return nil, api.ErrName
	}
	t := d.names.shown[name]
	if t == nil {
		return nil, api.ErrNone
	}
	return t, api.OK
}

// refusedRoom tells whether the coming stroke has room, by the plan and for so
// many bytes more.
func (d *Disk) refusedRoom(more int) api.Errno {
	next := d.planned + 1
	if d.plan.From <= next && next <= d.plan.To {
		return api.ErrFull
	}
	if more > 0 && d.Used()+more > d.room {
		return api.ErrFull
	}
	return api.OK
}

// stroke counts one, and is what its call answers: what it was refused for, if
// the power does not go off at it.
func (d *Disk) stroke(refused api.Errno) api.Errno {
	d.strokes++
	d.planned++
	if d.planned == d.plan.Off {
		d.on = false
		return api.ErrOff
	}
	return refused
}
