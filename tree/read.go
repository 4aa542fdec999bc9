package tree

import (
	"freight/api"
	"freight/code"
)

// noTree is what the reader gives up with, wherever it stands: what is no
// tree is none for whatever reason.
type noTree struct{}

func must(holds bool) {
	if !holds {
		panic(noTree{})
	}
}

func read(r *code.Reader) []api.Entry {
	must(r.Fixed(markWidth) == mark)
	count := r.Number()
	must(isSound(r))
	var entries []api.Entry
	for range count {
		entry := readEntry(r)
		must(mayFollow(entries, entry))
		entries = append(entries, entry)
	}
	must(r.Left() == 0)
	return entries
}

func readEntry(r *code.Reader) api.Entry {
	var entry api.Entry
	entry.Kind = r.Fixed(kindWidth)
	entry.Name = string(r.Text(api.MaxEntryName))
	copy(entry.ID[:], r.Raw(len(entry.ID)))
	must(isSound(r))
	return entry
}

func isSound(r *code.Reader) bool {
	errno, _ := r.Err()
	return errno == api.OK
}
