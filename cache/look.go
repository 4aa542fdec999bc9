package cache

import (
	"iter"

	"freight/api"
	"freight/digest"
	"freight/table"
)

// Pending tells whether an import is open.
func (c *Cache) Pending() bool {
	_, errno := c.Disk().Size(c.importFile())
	return errno == api.OK
}

// Get is the blob of that id.
func (c *Cache) Get(id api.ID) ([]byte, error) {
	if c.isOff() {
		return nil, c.refuse(opGet, api.ErrOff)
	}
	data, err := c.blob(id)
	if err != nil {
		return nil, c.refuseID(opGet, id, err)
	}
	return data, nil
}

// Blobs are the ids of all files of blobs, rising.
func (c *Cache) Blobs() ([]api.ID, error) {
	if c.isOff() {
		return nil, c.refuse(opBlobs, api.ErrOff)
	}
	return c.blobs(), nil
}

// Table is its table.
func (c *Cache) Table() ([]api.Result, error) {
	results, err := c.results()
	if err != nil {
		return nil, c.refuse(opTable, err)
	}
	return results, nil
}

// All goes through its table.
func (c *Cache) All() (iter.Seq[api.Result], error) {
	results, err := c.results()
	if err != nil {
		return nil, c.refuse(opAll, err)
	}
	return func(yield func(api.Result) bool) {
		for _, result := range results {
			if !yield(result) {
				return
			}
		}
	}, nil
}

// size is how many bytes the file of a blob has, damage or not; false, if
// there is none.
func (c *Cache) size(id api.ID) (int, bool) {
	if !c.fits(id) {
		return 0, false
	}
	size, errno := c.disk.Size(c.blobFile(id))
	return size, errno == api.OK
}

// blob is the bytes of an id that is there.
func (c *Cache) blob(id api.ID) ([]byte, error) {
	size, is := c.size(id)
	if !is {
		return nil, api.ErrNoBlob
	}
	// A file may be as long as the disk: such a one is not read at all.
	if size > api.MaxBlob {
		return nil, api.ErrDamage
	}
	data, errno := c.disk.Read(c.blobFile(id), 0, size)
	if errno != api.OK {
		return nil, errno
	}
	if digest.Of(c.width, data) != id {
		return nil, api.ErrDamage
	}
	return data, nil
}

// blobs are in order as the disk's names are, which end in the ids in hex.
func (c *Cache) blobs() []api.ID {
	var ids []api.ID
	for _, name := range c.disk.List(c.blobPrefix()) {
		if id, is := c.blobOf(name); is {
			ids = append(ids, id)
		}
	}
	return ids
}

// results are what the table's file holds.
func (c *Cache) results() ([]api.Result, error) {
	if c.isOff() {
		return nil, api.ErrOff
	}
	size, errno := c.disk.Size(c.tableFile())
	if errno == api.ErrNone {
		return nil, nil
	}
	data, errno := c.disk.Read(c.tableFile(), 0, size)
	if errno != api.OK {
		return nil, errno
	}
	results, errno := table.Parse(data)
	if errno != api.OK {
		return nil, api.ErrCache
	}
	return results, nil
}
