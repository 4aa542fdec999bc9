package bundle

import (
	"slices"
	"sync"

	"freight/api"
	"freight/block"
	"freight/digest"
	"freight/reach"
)

// openers is how many blocks are opened side by side.
const openers = 4

// opened is what comes of the block of that number.
type opened struct {
	number int
	raw    []byte
	errno  api.Errno
}

// openAll is the row of a bundle. Each block is laid in its place by its
// number, so it is one row whichever of them is opened first. The channels
// have room for all blocks: nobody waits for anybody but for the last opener.
func openAll(data []byte, face api.Face) ([]byte, api.Errno) {
	numbers := make(chan int, len(face.Blocks))
	answers := make(chan opened, len(face.Blocks))
	for number := range face.Blocks {
		numbers <- number
	}
	close(numbers)
	var all sync.WaitGroup
	for range min(openers, len(face.Blocks)) {
		all.Add(1)
		go func() {
			defer all.Done()
			for number := range numbers {
				answers <- openOne(data, face.Blocks[number], number)
			}
		}()
	}
	all.Wait()
	close(answers)
	return layAll(answers, face)
}

func openOne(data []byte, b api.Block, number int) opened {
	behind := b.At + b.Packed
	raw, errno := block.Open(data[b.At:behind:behind], b)
	return opened{number: number, raw: raw, errno: errno}
}

func layAll(answers <-chan opened, face api.Face) ([]byte, api.Errno) {
	row := make([]byte, rowBytes(face.Blobs))
	for answer := range answers {
		if answer.errno != api.OK {
			return nil, api.ErrBlock
		}
		copy(row[answer.number*face.Size:], answer.raw)
	}
	return row, api.OK
}

func rowBytes(places []api.Place) int {
	if len(places) == 0 {
		return 0
	}
	last := places[len(places)-1]
	return last.At + last.N
}

// checkBlobs asks whether the blobs have their ids, and are just what the
// results need; with an error comes the id that it is said of.
func checkBlobs(face api.Face, row []byte) (api.ID, error) {
	source := reach.Map{}
	for _, place := range face.Blobs {
		blob := row[place.At : place.At+place.N]
		if digest.Of(face.Width, blob) != place.ID {
			return place.ID, api.ErrDigest
		}
		source[place.ID] = blob
	}
	need, err := reach.Need(source, face.Results...)
	if err != nil {
		return idIn(err), err
	}
	for _, place := range face.Blobs {
		if _, is := slices.BinarySearchFunc(need, place.ID, digest.Compare); !is {
			return place.ID, api.ErrExtra
		}
	}
	return api.ID{}, nil
}
