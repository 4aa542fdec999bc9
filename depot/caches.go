package depot

import (
	"freight/export"
	"freight/intake"
	"freight/restore"
)

func (c *call) put() error {
	id, err := c.cache.Put(c.step.Data)
	c.answer.ID = id
	return err
}

func (c *call) set() error { return c.cache.Set(c.step.Result) }

func (c *call) drop() error { return c.cache.Drop(c.step.ID) }

func (c *call) get() error {
	data, err := c.cache.Get(c.step.ID)
	c.answer.Data = data
	return err
}

func (c *call) tellCache() error {
	ids, err := c.cache.Blobs()
	if err != nil {
		return err
	}
	results, err := c.cache.Table()
	c.answer.IDs, c.answer.Results = ids, results
	return err
}

func (c *call) export() error {
	return export.Export(c.cache, c.step.Actions, c.step.Size, fileName(c.step.File))
}

func (c *call) takeIn() error {
	return intake.Import(c.cache, fileName(c.step.File), c.step.Policy)
}

func (c *call) resume() error { return intake.Resume(c.cache) }

func (c *call) abandon() error { return intake.Abandon(c.cache) }

func (c *call) restore() error {
	return restore.Restore(c.cache, fileName(c.step.File), c.step.Actions, c.step.Policy)
}
