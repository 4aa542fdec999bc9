package tree

import "freight/api"

func areTree(entries []api.Entry) bool {
	for i, entry := range entries {
		if !mayFollow(entries[:i], entry) {
			return false
		}
	}
	return true
}

// mayFollow tells of entries that are a tree whether they still are one with
// this entry behind them. Whoever writes and whoever reads asks it of each
// entry, so that neither takes what the other does not.
func mayFollow(entries []api.Entry, next api.Entry) bool {
	if len(entries) == api.MaxEntries || !isKind(next.Kind) || !Valid(next.Name) {
		return false
	}
	return len(entries) == 0 || entries[len(entries)-1].Name < next.Name
}

func isKind(kind int) bool {
	return kind == api.KindFile || kind == api.KindRun || kind == api.KindFolder
}
