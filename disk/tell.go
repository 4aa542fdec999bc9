package disk

import (
	"slices"
	"strings"

	"freight/api"
)

// Read is n bytes of a file from a place on.
func (d *Disk) Read(name string, at, n int) ([]byte, api.Errno) {
	t, errno := d.find(name)
	if errno != api.OK {
		return nil, errno
	}
	// Not by their sum, which may go round.
	if at < 0 || n < 0 || at > len(t.shown) || n > len(t.shown)-at {
		return nil, api.ErrBeyond
	}
	d.reads = append(d.reads, api.Span{Name: name, At: at, N: n})
	return slices.Clone(t.shown[at : at+n]), api.OK
}

// Size is how many bytes a file has.
func (d *Disk) Size(name string) (int, api.Errno) {
	t, errno := d.find(name)
	if errno != api.OK {
		return 0, errno
	}
	return len(t.shown), api.OK
}

// List are the names that begin so, rising.
func (d *Disk) List(prefix string) []string {
	if d.Off() {
		return nil
	}
	var list []string
	for _, name := range d.names.shown.rising() {
		if strings.HasPrefix(name, prefix) {
			list = append(list, name)
		}
	}
	return list
}

// Off tells whether the power is off.
func (d *Disk) Off() bool { return d == nil || !d.on }

// Strokes is how many strokes there were since the disk was made, or since the last crash.
func (d *Disk) Strokes() int {
	if d == nil {
		return 0
	}
	return d.strokes
}

// Used is how many bytes all files have.
func (d *Disk) Used() int {
	if d == nil {
		return 0
	}
	sum := 0
	for _, t := range d.names.shown {
		sum += len(t.shown)
	}
	return sum
}

// Room is how many there may be.
func (d *Disk) Room() int {
	if d == nil {
		return 0
	}
	return d.room
}

// Files are all files by rising names.
func (d *Disk) Files() []api.FileBytes {
	if d == nil {
		return nil
	}
	var files []api.FileBytes
	for _, name := range d.names.shown.rising() {
		files = append(files, api.FileBytes{Name: name, Data: slices.Clone(d.names.shown[name].shown)})
	}
	return files
}

// Safe are the files that a crash without picks would leave, by rising names.
func (d *Disk) Safe() []api.FileBytes {
	if d == nil {
		return nil
	}
	var files []api.FileBytes
	for _, name := range d.names.safe.rising() {
		files = append(files, api.FileBytes{Name: name, Data: []byte(d.names.safe[name].safe)})
	}
	return files
}

// Reads are the spans that were read since Look, in their order.
func (d *Disk) Reads() []api.Span {
	if d == nil {
		return nil
	}
	return slices.Clone(d.reads)
}

// Look forgets the spans that were read.
func (d *Disk) Look() {
	if d != nil {
		d.reads = nil
	}
}
