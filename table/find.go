package table

import (
	"bytes"
	"slices"
	"sort"

	"freight/api"
)

// Find is the result of an action; false: there is none.
func Find(results []api.Result, action api.ID) (api.Result, bool) {
	at, found := first(results, action)
	if !found {
		return api.Result{}, false
	}
	return results[at], true
}

// first is the place of the first result of that action in any list: halving
// finds it in a table alone.
func first(results []api.Result, action api.ID) (int, bool) {
	if Valid(results) {
		return place(results, action)
	}
	at := slices.IndexFunc(results, func(result api.Result) bool { return result.Action == action })
	return at, at >= 0
}

// place is where a table has the result of that action, or where it would
// have it; and whether it has one.
func place(results []api.Result, action api.ID) (int, bool) {
	at := sort.Search(len(results), func(i int) bool {
		return bytes.Compare(results[i].Action[:], action[:]) >= 0
	})
	return at, at < len(results) && results[at].Action == action
}

// With is a table with that result, in the place of one of its action.
func With(results []api.Result, one api.Result) ([]api.Result, api.Errno) {
	if !Valid(results) || hasNoCode(one) {
		return nil, api.ErrTable
	}
	at, found := place(results, one.Action)
	rest := results[at:]
	if found {
		rest = rest[1:]
	} else if len(results) == api.MaxActions {
		return nil, api.ErrActions
	}
	return slices.Concat(results[:at], []api.Result{one}, rest), api.OK
}
