package bundle

import (
	"bytes"
	"maps"
	"slices"

	"freight/api"
	"freight/digest"
)

func isTooLong(blob []byte) bool { return len(blob) > api.MaxBlob }

// gather is each blob once, by its id, and the ids that unlike blobs have.
func gather(width int, blobs [][]byte) (map[api.ID][]byte, []api.ID) {
	kept := map[api.ID][]byte{}
	var clashes []api.ID
	for _, blob := range blobs {
		id := digest.Of(width, blob)
		first, is := kept[id]
		switch {
		case !is:
			kept[id] = blob
		case !bytes.Equal(first, blob):
			clashes = append(clashes, id)
		}
	}
	return kept, clashes
}

// lay is the row of some blobs, and where each lies in it.
func lay(blobs map[api.ID][]byte) ([]api.Place, []byte) {
	var places []api.Place
	var row []byte
	for _, id := range slices.SortedFunc(maps.Keys(blobs), digest.Compare) {
		places = append(places, api.Place{ID: id, At: len(row), N: len(blobs[id])})
		row = append(row, blobs[id]...)
	}
	return places, row
}
