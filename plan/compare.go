package plan

import (
	"bytes"
	"errors"

	"freight/api"
	"freight/digest"
)

// lacking is what the cache lacks of a need.
type lacking struct {
	ids   []api.ID
	files int // how many of ids have no file: damage has one
}

// compare looks at both sides of each id. The ids rise, so the first offence of
// a kind is that of the least id; one of the source ends the look, but a clash
// does not, as whatever the source says stands ahead of it.
func (c call) compare(need []api.ID) (lacking, error) {
	var lack lacking
	var offence, clash error
	look := func(id api.ID) {
		theirs, err := c.theirs(id)
		if err != nil {
			offence = err
			return
		}
		ours, err := c.cache.Get(id)
		switch {
		case err == nil && !bytes.Equal(ours, theirs) && clash == nil:
			clash = c.refuseID(id, api.ErrCollision)
		case errors.Is(err, api.ErrNoBlob):
			lack.ids = append(lack.ids, id)
			lack.files++
		case errors.Is(err, api.ErrDamage):
			lack.ids = append(lack.ids, id)
		case err != nil:
			offence = c.refuse(err)
		}
	}
	for _, id := range need {
		if look(id); offence != nil {
			return lacking{}, offence
		}
	}
	if clash != nil {
		return lacking{}, clash
	}
	return lack, nil
}

// theirs is the source's bytes of an id.
func (c call) theirs(id api.ID) ([]byte, error) {
	data, err := c.source.Get(id)
	switch {
	case err != nil:
		return nil, c.refuseID(id, tell(err))
	case len(data) > api.MaxBlob:
		return nil, c.refuseID(id, api.ErrLong)
	case digest.Of(c.cache.Width(), data) != id:
		return nil, c.refuseID(id, api.ErrDigest)
	}
	return data, nil
}
