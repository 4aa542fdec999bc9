package reader

import (
	"freight/api"
	"freight/block"
	"freight/digest"
)

// find is where the blob of that id lies in the row.
func (r Reader) find(id api.ID) (api.Place, bool) {
	for _, place := range r.face.Blobs {
		if place.ID == id {
			return place, true
		}
	}
	return api.Place{}, false
}

// blob reads a block that it shares with another one for itself, since none is
// kept.
func (r Reader) blob(place api.Place) ([]byte, error) {
	data := make([]byte, 0, place.N)
	first, behind := block.Cover(r.face.Size, place.At, place.N)
	for k := range behind - first {
		number := first + k
		raw, err := r.open(r.face.Blocks[number])
		if err != nil {
			return nil, r.file.refuse(opGet, err)
		}
		data = append(data, own(raw, number*r.face.Size, place)...)
	}
	if digest.Of(r.face.Width, data) != place.ID {
		return nil, r.file.refuseID(opGet, place.ID, api.ErrDigest)
	}
	return data, nil
}

func (r Reader) open(b api.Block) ([]byte, error) {
	packed, err := r.file.read(b.At, b.Packed)
	if err != nil {
		return nil, err
	}
	raw, errno := block.Open(packed, b)
	if errno != api.OK {
		return nil, errno
	}
	return raw, nil
}

// own are the blob's bytes of a block that begins at that place of the row: the
// first one and the last one may have bytes of other blobs too.
func own(raw []byte, at int, place api.Place) []byte {
	from := max(place.At-at, 0)
	to := min(place.At+place.N-at, len(raw))
	return raw[from:to]
}
