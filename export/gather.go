package export

import (
	"freight/api"
	"freight/reach"
)

// reading is a goroutine that reads blobs, as whoever gathers them sees it.
type reading struct {
	blobs chan []byte
	err   error // written ahead of the close of blobs, and read behind it
}

// gather is the blobs of some ids, in their order. It takes whatever is sent up
// to the close, and so the goroutine, which nobody keeps waiting, has ended.
func gather(source reach.Source, ids []api.ID) ([][]byte, error) {
	r := &reading{blobs: make(chan []byte)}
	go r.send(source, ids)
	var blobs [][]byte
	for blob := range r.blobs {
		blobs = append(blobs, blob)
	}
	if r.err != nil {
		return nil, r.err
	}
	return blobs, nil
}

// send closes behind the last blob, or behind the first that cannot be read.
func (r *reading) send(source reach.Source, ids []api.ID) {
	defer close(r.blobs)
	for _, id := range ids {
		blob, err := source.Get(id)
		if err != nil {
			r.err = err
			return
		}
		r.blobs <- blob
	}
}
