package restore

import (
	"bytes"
	"maps"
	"slices"

	"freight/api"
)

// actionSet has each action once, however often it was asked for.
type actionSet map[api.ID]struct{}

func setOf(actions []api.ID) actionSet {
	set := actionSet{}
	for _, action := range actions {
		set[action] = struct{}{}
	}
	return set
}

// choose are the results of these actions, and the actions that have none.
func choose(results []api.Result, actions []api.ID) ([]api.Result, actionSet) {
	left := setOf(actions)
	var chosen []api.Result
	for _, result := range results {
		if _, is := left[result.Action]; is {
			chosen = append(chosen, result)
			delete(left, result.Action)
		}
	}
	return chosen, left
}

// least is asked of a set that has an action; it is the same in whatever order
// the set is gone through.
func (s actionSet) least() api.ID {
	return slices.MinFunc(slices.Collect(maps.Keys(s)), func(a, b api.ID) int { return bytes.Compare(a[:], b[:]) })
}
