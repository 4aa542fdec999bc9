package reach

import (
	"bytes"
	"slices"

	"freight/api"
)

// set is ids, each once.
type set map[api.ID]struct{}

func (s set) add(ids ...api.ID) {
	for _, id := range ids {
		s[id] = struct{}{}
	}
}

func (s set) rising() []api.ID {
	ids := make([]api.ID, 0, len(s))
	for id := range s {
		ids = append(ids, id)
	}
	slices.SortFunc(ids, compare)
	return ids
}

// least is asked of a set that has an id.
func (s set) least() api.ID { return s.rising()[0] }

func compare(a, b api.ID) int { return bytes.Compare(a[:], b[:]) }
