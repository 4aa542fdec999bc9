package cache

import (
	"bytes"
	"errors"
	"slices"

	"freight/api"
	"freight/digest"
	"freight/file"
	"freight/reach"
	"freight/table"
)

const maxCode = 255

// Put keeps a blob.
func (c *Cache) Put(data []byte) (api.ID, error) {
	if len(data) > api.MaxBlob {
		return api.ID{}, c.refuse(opPut, api.ErrLong)
	}
	if err := c.busy(); err != nil {
		return api.ID{}, c.refuse(opPut, err)
	}
	return c.lay(opPut, data)
}

// Lay is Put, whether an import is open or not.
func (c *Cache) Lay(data []byte) (api.ID, error) {
	if len(data) > api.MaxBlob {
		return api.ID{}, c.refuse(opLay, api.ErrLong)
	}
	if c.isOff() {
		return api.ID{}, c.refuse(opLay, api.ErrOff)
	}
	return c.lay(opLay, data)
}

// Set keeps a result.
func (c *Cache) Set(r api.Result) error {
	if r.Code < 0 || r.Code > maxCode {
		return c.refuse(opSet, api.ErrArg)
	}
	if err := c.busy(); err != nil {
		return c.refuse(opSet, err)
	}
	results, err := c.results()
	if err != nil {
		return c.refuse(opSet, err)
	}
	if _, err := reach.Need(c, r); err != nil {
		return c.refuse(opSet, err)
	}
	changed, errno := table.With(results, r)
	if errno != api.OK {
		return c.refuse(opSet, errno)
	}
	if slices.Equal(results, changed) {
		return nil
	}
	return c.putTable(opSet, changed)
}

// Drop takes a blob's file away.
func (c *Cache) Drop(id api.ID) error {
	if err := c.busy(); err != nil {
		return c.refuse(opDrop, err)
	}
	if _, is := c.size(id); !is {
		return c.refuseID(opDrop, id, api.ErrNoBlob)
	}
	if err := file.Drop(c.disk, c.blobFile(id)); err != nil {
		return c.refuse(opDrop, err)
	}
	return nil
}

// Swap puts a table in the place of the one that is there, whether an import is open or not.
func (c *Cache) Swap(results []api.Result) error {
	if !table.Valid(results) {
		return c.refuse(opSwap, api.ErrArg)
	}
	if c.isOff() {
		return c.refuse(opSwap, api.ErrOff)
	}
	// Whatever holds no table is written over.
	if held, err := c.results(); err == nil && slices.Equal(held, results) {
		return nil
	}
	return c.putTable(opSwap, results)
}

// busy is why the cache may not be changed now, but by an import.
func (c *Cache) busy() error {
	if c.isOff() {
		return api.ErrOff
	}
	if c.Pending() {
		return api.ErrOpen
	}
	return nil
}

// lay compares where the id is met for a second time; damage is written over.
func (c *Cache) lay(op string, data []byte) (api.ID, error) {
	id := digest.Of(c.width, data)
	held, err := c.blob(id)
	switch {
	case err == nil && bytes.Equal(held, data):
		return id, nil
	case err == nil:
		return api.ID{}, c.refuseID(op, id, api.ErrCollision)
	case errors.Is(err, api.ErrNoBlob) && len(c.blobs()) >= api.MaxBlobs:
		return api.ID{}, c.refuse(op, api.ErrBlobs)
	}
	if err := file.Put(c.disk, c.blobFile(id), data); err != nil {
		return api.ID{}, c.refuse(op, err)
	}
	return id, nil
}

func (c *Cache) putTable(op string, results []api.Result) error {
	form, errno := table.Encode(results)
	if errno != api.OK {
		return c.refuse(op, errno)
	}
	if err := file.Put(c.disk, c.tableFile(), form); err != nil {
		return c.refuse(op, err)
	}
	return nil
}
