package intake

import (
	"errors"

	"freight/api"
	"freight/bundle"
	"freight/cache"
	"freight/file"
	"freight/plan"
	"freight/reach"
	"freight/reader"
)

// call is one of the calls while it is carried out: the parts of an import, and
// what they share.
type call struct {
	op      string
	cache   *cache.Cache
	journal api.Journal
	bundle  reach.Source // behind the part that opens it
	parts   []func() error
}

func newCall(op string, c *cache.Cache) *call {
	made := &call{op: op, cache: c}
	made.parts = []func() error{made.open, made.lay, made.checkWhole, made.swap, made.end}
	return made
}

// importFile is there while an import is open.
func (c *call) importFile() string { return "c." + c.cache.Name() + ".import" }

// checkFree asks whether an import may begin. That there is no import's file is
// told from a disk that cannot say so.
func (c *call) checkFree() error {
	_, err := file.Get(c.cache.Disk(), c.importFile())
	switch {
	case err == nil:
		return c.refuse(api.ErrOpen)
	case errors.Is(err, api.ErrNone):
		return nil
	}
	return c.refuse(err)
}

// verified is a bundle all of whose bytes were looked at, ready to be read blob
// by blob.
func (c *call) verified(name string) (*reader.Reader, error) {
	data, err := file.Get(c.cache.Disk(), name)
	if err != nil {
		return nil, c.refuse(err)
	}
	if _, err := bundle.Verify(data, c.cache.Width()); err != nil {
		return nil, c.refuse(err)
	}
	r, err := reader.Open(c.cache.Disk(), name, c.cache.Width())
	if err != nil {
		return nil, c.refuse(err)
	}
	return r, nil
}

// take begins an import of what r has, and carries it on.
func (c *call) take(r *reader.Reader, results []api.Result, need []api.ID, policy int) error {
	change, err := plan.Of(c.cache, r, results, need, policy)
	if err != nil {
		return c.refuse(err)
	}
	face := r.Face()
	c.journal = api.Journal{
		Bundle:  r.Name(),
		Entries: face.Entries,
		Index:   face.Index,
		Results: results,
		Need:    need,
		Table:   change.Table,
	}
	if err := c.putJournal(); err != nil {
		return err
	}
	return c.carryOn()
}

func (c *call) putJournal() error {
	form, err := Encode(c.journal)
	if err != nil {
		return c.refuse(err)
	}
	if err := file.Put(c.cache.Disk(), c.importFile(), form); err != nil {
		return c.refuse(err)
	}
	return nil
}

func (c *call) readJournal() error {
	form, err := file.Get(c.cache.Disk(), c.importFile())
	switch {
	case errors.Is(err, api.ErrNone):
		return c.refuse(api.ErrNoImport)
	case err != nil:
		return c.refuse(err)
	}
	c.journal, err = Decode(form)
	if err != nil {
		return c.refuse(err)
	}
	return nil
}

func isPolicy(policy int) bool {
	return policy == api.Keep || policy == api.Take || policy == api.Fail
}

func idsOf(places []api.Place) []api.ID {
	var ids []api.ID
	for _, place := range places {
		ids = append(ids, place.ID)
	}
	return ids
}

// isOff tells whether a Reader has no disk, or one whose power is off. Get says
// so ahead of all else; of an id that the bundle has not it reads nothing.
func isOff(r *reader.Reader) bool {
	_, err := r.Get(absent(r.Face().Blobs))
	return errors.Is(err, api.ErrOff)
}

// absent is an id that none of the blobs has. They rise, so what is one above a
// blob's id is that of none ahead of it.
func absent(blobs []api.Place) api.ID {
	var id api.ID
	for _, place := range blobs {
		if place.ID == id {
			id[len(id)-1]++
		}
	}
	return id
}
