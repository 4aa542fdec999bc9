package export

import (
	"bytes"
	"slices"

	"freight/api"
	"freight/bundle"
	"freight/cache"
	"freight/file"
	"freight/reach"
	"freight/table"
)

// call is one of the two calls while it is carried out: both build, and the
// faults of each have its own name.
type call struct {
	op    string
	cache *cache.Cache
}

func (c call) build(actions []api.ID, size int) ([]byte, error) {
	if size < api.MinBlock || size > api.MaxBlock {
		return nil, c.refuse(api.ErrArg)
	}
	results, err := c.results(actions)
	if err != nil {
		return nil, err
	}
	blobs, err := c.blobs(results)
	if err != nil {
		return nil, err
	}
	data, err := bundle.Make(c.cache.Width(), results, blobs, size)
	if err != nil {
		return nil, c.refuse(err)
	}
	return data, nil
}

// results are those of the actions. The first that lacks is the least one,
// since the actions rise.
func (c call) results(actions []api.ID) ([]api.Result, error) {
	// Table says ErrOff, of no cache too, ahead of what its file holds.
	held, err := c.cache.Table()
	if err != nil {
		return nil, c.refuse(err)
	}
	var results []api.Result
	for _, action := range rising(actions) {
		result, is := table.Find(held, action)
		if !is {
			return nil, c.refuseID(action, api.ErrNoAction)
		}
		results = append(results, result)
	}
	return results, nil
}

// blobs are those of the need of results, by rising ids.
func (c call) blobs(results []api.Result) ([][]byte, error) {
	need, err := reach.Need(c.cache, results...)
	if err != nil {
		return nil, c.refuse(err)
	}
	if len(need) > api.MaxBundle {
		return nil, c.refuse(api.ErrMany)
	}
	blobs, err := gather(c.cache, need)
	if err != nil {
		return nil, c.refuse(err)
	}
	if bytesOf(blobs) > api.MaxRow {
		return nil, c.refuse(api.ErrBundleLong)
	}
	return blobs, nil
}

// checkName asks Put itself, which alone knows what it takes: without a disk it
// does nothing, and says ErrName ahead of ErrOff.
func (c call) checkName(name string) error {
	if err := file.Put(nil, name, nil); numberIn(err) == api.ErrName {
		return c.refuse(err)
	}
	return nil
}

func (c call) put(name string, data []byte) error {
	if err := file.Put(c.cache.Disk(), name, data); err != nil {
		return c.refuse(err)
	}
	return nil
}

// rising are ids in their order, each once.
func rising(ids []api.ID) []api.ID {
	sorted := slices.Clone(ids)
	slices.SortFunc(sorted, func(a, b api.ID) int { return bytes.Compare(a[:], b[:]) })
	return slices.Compact(sorted)
}

func bytesOf(blobs [][]byte) int {
	sum := 0
	for _, blob := range blobs {
		sum += len(blob)
	}
	return sum
}
