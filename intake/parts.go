package intake

import (
	"errors"

	"freight/api"
	"freight/file"
	"freight/reach"
	"freight/reader"
)

// carryOn goes through the parts by the journal. Each of them does nothing where
// it was done already, so that it may be done once more.
func (c *call) carryOn() error {
	for _, part := range c.parts {
		if err := part(); err != nil {
			return err
		}
	}
	return nil
}

// open finds the bundle that the import began with.
func (c *call) open() error {
	r, err := reader.Open(c.cache.Disk(), c.journal.Bundle, c.cache.Width())
	if err != nil {
		return c.refuse(other(err))
	}
	if face := r.Face(); face.Entries != c.journal.Entries || face.Index != c.journal.Index {
		return c.refuse(api.ErrOther)
	}
	c.bundle = r
	return nil
}

func (c *call) lay() error {
	for _, id := range c.journal.Need {
		if err := c.layBlob(id); err != nil {
			return err
		}
	}
	return nil
}

func (c *call) layBlob(id api.ID) error {
	data, err := c.bundle.Get(id)
	if err != nil {
		return c.refuseID(id, other(err))
	}
	_, err = c.cache.Lay(data)
	switch {
	case err == nil:
		return nil
	case errors.Is(err, api.ErrCollision):
		return c.refuseID(id, other(err))
	}
	return c.refuseID(id, err)
}

// checkWhole stands ahead of the table: no result comes whose need does not lie
// in the cache.
func (c *call) checkWhole() error {
	if _, err := reach.Need(c.cache, c.journal.Results...); err != nil {
		return c.refuse(other(err))
	}
	return nil
}

func (c *call) swap() error {
	if err := c.cache.Swap(c.journal.Table); err != nil {
		return c.refuse(err)
	}
	return nil
}

func (c *call) end() error {
	if err := file.Drop(c.cache.Disk(), c.importFile()); err != nil {
		return c.refuse(err)
	}
	return nil
}
