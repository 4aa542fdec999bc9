package table_test

import (
	"slices"

	"freight/api"
)

// isBelow tells which of two actions is ahead of the other: the first byte in
// which they are unlike says it.
func isBelow(a, b api.ID) bool {
	for i := range 32 {
		if a[i] != b[i] {
			return a[i] < b[i]
		}
	}
	return false
}

// validByWords is what the chapter calls a table, with the numbers written out.
func validByWords(results []api.Result) bool {
	if len(results) > 32 {
		return false
	}
	for i, one := range results {
		if one.Code < 0 || one.Code > 255 {
			return false
		}
		if i > 0 && !isBelow(results[i-1].Action, one.Action) {
			return false
		}
	}
	return true
}

// writtenByWords is the form, of at most 127 results: their number is one byte.
func writtenByWords(results []api.Result) []byte {
	data := []byte{byte(len(results))}
	for _, one := range results {
		data = append(data, one.Action[:]...)
		data = append(data, one.Root[:]...)
		data = append(data, byte(one.Code))
	}
	return data
}

// readByWords cuts the bytes as if the number were one byte, and asks whether
// what it has cut is a table that is written so.
func readByWords(data []byte) ([]api.Result, bool) {
	var results []api.Result
	for at := 1; at+65 <= len(data); at += 65 {
		results = append(results, api.Result{
			Action: api.ID(data[at : at+32]),
			Root:   api.ID(data[at+32 : at+64]),
			Code:   int(data[at+64]),
		})
	}
	if !validByWords(results) || string(writtenByWords(results)) != string(data) {
		return nil, false
	}
	return results, true
}

func findByWords(results []api.Result, action api.ID) (api.Result, bool) {
	for _, one := range results {
		if one.Action == action {
			return one, true
		}
	}
	return api.Result{}, false
}

// tableOf is what a map says, by rising actions.
func tableOf(results map[api.ID]api.Result) []api.Result {
	var all []api.Result
	for _, one := range results {
		all = append(all, one)
	}
	slices.SortFunc(all, func(a, b api.Result) int {
		if isBelow(a.Action, b.Action) {
			return -1
		}
		return 1
	})
	return all
}

func mapOf(results []api.Result) map[api.ID]api.Result {
	all := map[api.ID]api.Result{}
	for _, one := range results {
		all[one.Action] = one
	}
	return all
}

// withByWords is P8.5.
func withByWords(results []api.Result, one api.Result) ([]api.Result, api.Errno) {
	if !validByWords(results) || one.Code < 0 || one.Code > 255 {
		return nil, api.ErrTable
	}
	all := mapOf(results)
	all[one.Action] = one
	if len(all) > 32 {
		return nil, api.ErrActions
	}
	return tableOf(all), api.OK
}

// joinByWords is P8.6.
func joinByWords(ours, theirs []api.Result, policy int) ([]api.Result, []api.ID, api.Errno) {
	if policy != 1 && policy != 2 && policy != 3 {
		return nil, nil, api.ErrArg
	}
	if !validByWords(ours) || !validByWords(theirs) {
		return nil, nil, api.ErrTable
	}
	all := mapOf(theirs)
	var conflicts []api.ID
	for _, one := range ours {
		other, both := all[one.Action]
		if both && (one.Root != other.Root || one.Code != other.Code) {
			conflicts = append(conflicts, one.Action)
		}
		if !both || policy != 2 {
			all[one.Action] = one
		}
	}
	if policy == 3 && len(conflicts) > 0 {
		return nil, conflicts, api.ErrConflict
	}
	if len(all) > 32 {
		return nil, nil, api.ErrActions
	}
	return tableOf(all), conflicts, api.OK
}
