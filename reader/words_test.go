package reader_test

import (
	"regexp"

	"freight/api"
	"freight/bundle"
	"freight/disk"
	"freight/press"
)

// What chapter 13 says, read for a second time: it looks at what the disk
// shows, and tells which reads there have to be.

// words is a bundle that is open.
type words struct {
	disk *disk.Disk
	name string
	face api.Face
}

type blob struct {
	id   api.ID
	data string
}

var isName = regexp.MustCompile(`^[a-z0-9.\-_+]{1,112}$`)

// shownFile is a file as the disk shows it.
func shownFile(d *disk.Disk, name string) ([]byte, bool) {
	for _, f := range d.Files() {
		if f.Name == name {
			return f.Data, true
		}
	}
	return nil, false
}

// openByWords is P13.1; what Look asks for, chapter 12 says.
func openByWords(d *disk.Disk, name string, width int) (*words, api.Errno, []api.Span) {
	if width < 1 || width > 32 {
		return nil, api.ErrArg, nil
	}
	if d.Off() {
		return nil, api.ErrOff, nil
	}
	if !isName.MatchString(name) {
		return nil, api.ErrName, nil
	}
	data, is := shownFile(d, name)
	if !is {
		return nil, api.ErrNone, nil
	}
	var reads []api.Span
	face, err := bundle.Look(len(data), func(at, n int) ([]byte, error) {
		reads = append(reads, api.Span{Name: name, At: at, N: n})
		return data[at : at+n], nil
	}, width)
	if err != nil {
		return nil, api.Code(err), reads
	}
	return &words{d, name, face}, api.OK, reads
}

// get is P13.3 and P13.4: the blob, or an error and the id that it is said of;
// and what is read for it.
func (w *words) get(id api.ID) ([]byte, api.Errno, api.ID, []api.Span) {
	if w.disk.Off() {
		return nil, api.ErrOff, api.ID{}, nil
	}
	for _, place := range w.face.Blobs {
		if place.ID == id {
			return w.read(place)
		}
	}
	return nil, api.ErrNoBlob, id, nil
}

// read goes through all blocks of the row, byte by byte.
func (w *words) read(place api.Place) ([]byte, api.Errno, api.ID, []api.Span) {
	file, is := shownFile(w.disk, w.name)
	var data []byte
	var reads []api.Span
	from := 0
	for _, b := range w.face.Blocks {
		begins := from
		from += b.Raw
		if place.N == 0 || from <= place.At || begins >= place.At+place.N {
			continue
		}
		if !is {
			return nil, api.ErrNone, api.ID{}, reads
		}
		if b.At+b.Packed > len(file) {
			return nil, api.ErrBeyond, api.ID{}, reads
		}
		reads = append(reads, api.Span{Name: w.name, At: b.At, N: b.Packed})
		raw, good := unpacked(file[b.At:b.At+b.Packed], b)
		if !good {
			return nil, api.ErrBlock, api.ID{}, reads
		}
		for i, one := range raw {
			if at := begins + i; at >= place.At && at < place.At+place.N {
				data = append(data, one)
			}
		}
	}
	if idOf(w.face.Width, data) != place.ID {
		return nil, api.ErrDigest, place.ID, reads
	}
	return data, api.OK, api.ID{}, reads
}

func unpacked(packed []byte, b api.Block) ([]byte, bool) {
	if sumOf(packed) != b.Sum {
		return nil, false
	}
	if b.Packed == b.Raw {
		return packed, true
	}
	raw, errno := press.Unpack(packed, b.Raw)
	return raw, errno == api.OK
}

// blobs is P13.5, of a loop that breaks off behind so many.
func (w *words) blobs(most int) ([]blob, []api.Span) {
	var told []blob
	var reads []api.Span
	for _, place := range w.face.Blobs {
		data, errno, _, more := w.get(place.ID)
		reads = append(reads, more...)
		if errno != api.OK {
			break
		}
		told = append(told, blob{place.ID, string(data)})
		if len(told) == most {
			break
		}
	}
	return told, reads
}
