package plan

import (
	"freight/api"
	"freight/cache"
	"freight/digest"
	"freight/reach"
	"freight/table"
)

// call is Of while it is carried out: the two sides that it holds against each
// other.
type call struct {
	cache  *cache.Cache
	source reach.Source
}

// takes tells whether the arguments may be handed in.
func (c call) takes(results []api.Result, need []api.ID, policy int) bool {
	return isPolicy(policy) && table.Valid(results) && c.source != nil && rise(need)
}

func isPolicy(policy int) bool {
	return policy == api.Keep || policy == api.Take || policy == api.Fail
}

func rise(ids []api.ID) bool {
	for i := 1; i < len(ids); i++ {
		if digest.Compare(ids[i-1], ids[i]) >= 0 {
			return false
		}
	}
	return true
}

// join is the union of both tables. Join tells conflicts by rising actions, so
// the first is the least.
func (c call) join(ours, theirs []api.Result, policy int) ([]api.Result, error) {
	union, conflicts, errno := table.Join(ours, theirs, policy)
	switch errno {
	case api.OK:
		return union, nil
	case api.ErrConflict:
		return nil, c.refuseID(conflicts[0], errno)
	}
	return nil, c.refuse(errno)
}

// checkFiles asks whether so many files of blobs may come. Where none comes, the
// cache may have too many already.
func (c call) checkFiles(more int) error {
	if more == 0 {
		return nil
	}
	files, err := c.cache.Blobs()
	if err != nil {
		return c.refuse(err)
	}
	if len(files)+more > api.MaxBlobs {
		return c.refuse(api.ErrBlobs)
	}
	return nil
}
