package table

import (
	"bytes"
	"slices"

	"freight/api"
)

const maxCode = 255

// Valid tells whether results are a table.
func Valid(results []api.Result) bool {
	if len(results) > api.MaxActions || slices.ContainsFunc(results, hasNoCode) {
		return false
	}
	return slices.Equal(results, inOrder(results))
}

func hasNoCode(result api.Result) bool {
	return result.Code < 0 || result.Code > maxCode
}

// inOrder is one result of each action, by rising actions: just what is in
// order already stays as it was.
func inOrder(results []api.Result) []api.Result {
	rising := slices.Clone(results)
	slices.SortFunc(rising, compare)
	return slices.CompactFunc(rising, func(a, b api.Result) bool { return a.Action == b.Action })
}

// compare looks at actions alone.
func compare(a, b api.Result) int {
	return bytes.Compare(a.Action[:], b.Action[:])
}
