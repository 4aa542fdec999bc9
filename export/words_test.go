package export_test

import (
	"bytes"
	"encoding/hex"
	"regexp"
	"slices"
	"strings"

	"freight/api"
	"freight/bundle"
	"freight/disk"
	"freight/file"
	"freight/table"
	"freight/tree"
)

// What chapter 14 says, read for a second time: it looks at what the disk shows.

// said is what a call says: bytes, or a number and the id that it is said of.
type said struct {
	data []byte
	code api.Errno
	id   api.ID
}

var (
	isPutName = regexp.MustCompile(`^[a-z0-9.\-_][a-z0-9.\-_+]{0,110}$`)
	isHex     = regexp.MustCompile(`^[0-9a-f]{64}$`)
)

// thereByWords are the blobs that are there in a cache, which damage is not.
func thereByWords(d *disk.Disk, name string, width int) map[api.ID]string {
	there := map[api.ID]string{}
	for _, f := range d.Files() {
		text, is := strings.CutPrefix(f.Name, "c."+name+".b.")
		if !is || !isHex.MatchString(text) {
			continue
		}
		var id api.ID
		hex.Decode(id[:], []byte(text))
		if len(f.Data) <= 4096 && idOf(width, string(f.Data)) == id {
			there[id] = string(f.Data)
		}
	}
	return there
}

func least(ids map[api.ID]int) api.ID {
	var list []api.ID
	for id := range ids {
		list = append(list, id)
	}
	return slices.MinFunc(list, func(a, b api.ID) int { return bytes.Compare(a[:], b[:]) })
}

// needByWords is the need of results (DOC.md, Words), or why it is not whole.
func needByWords(there map[api.ID]string, results []api.Result) (map[api.ID]int, said) {
	need, noTrees, missing := map[api.ID]int{}, map[api.ID]int{}, map[api.ID]int{}
	round := map[api.ID]int{}
	for _, r := range results {
		round[r.Root]++
		need[r.Root]++
	}
	for range 6 {
		next := map[api.ID]int{}
		for id := range round {
			data, is := there[id]
			if !is {
				continue
			}
			entries, errno := tree.Parse([]byte(data))
			if errno != api.OK {
				noTrees[id]++
			}
			for _, e := range entries {
				need[e.ID]++
				if e.Kind == api.KindFolder {
					next[e.ID]++
				}
			}
		}
		round = next
	}
	for id := range need {
		if _, is := there[id]; !is {
			missing[id]++
		}
	}
	switch {
	case len(noTrees) > 0:
		return nil, said{code: api.ErrNoTree, id: least(noTrees)}
	case len(round) > 0:
		return nil, said{code: api.ErrDeep, id: least(round)}
	case len(missing) > 0:
		return nil, said{code: api.ErrMissing, id: least(missing)}
	}
	return need, said{}
}

// resultsByWords are those of the table of these actions.
func resultsByWords(d *disk.Disk, name string, actions []api.ID) ([]api.Result, said) {
	var results []api.Result
	if data, is := shown(d, "c."+name+".table"); is {
		parsed, errno := table.Parse([]byte(data))
		if errno != api.OK {
			return nil, said{code: api.ErrCache}
		}
		results = parsed
	}
	lacking := map[api.ID]int{}
	for _, action := range actions {
		if !slices.ContainsFunc(results, func(r api.Result) bool { return r.Action == action }) {
			lacking[action]++
		}
	}
	if len(lacking) > 0 {
		return nil, said{code: api.ErrNoAction, id: least(lacking)}
	}
	return slices.DeleteFunc(results, func(r api.Result) bool { return !slices.Contains(actions, r.Action) }), said{}
}

// buildByWords is P14.1.
func buildByWords(d *disk.Disk, name string, width int, actions []api.ID, size int) said {
	if size < 16 || size > 4096 {
		return said{code: api.ErrArg}
	}
	if d.Off() {
		return said{code: api.ErrOff}
	}
	results, refused := resultsByWords(d, name, actions)
	if refused.code != api.OK {
		return refused
	}
	there := thereByWords(d, name, width)
	need, refused := needByWords(there, results)
	if refused.code != api.OK {
		return refused
	}
	if len(need) > 64 {
		return said{code: api.ErrMany}
	}
	var blobs [][]byte
	sum := 0
	for id := range need {
		blobs = append(blobs, []byte(there[id]))
		sum += len(there[id])
	}
	if sum > 65536 {
		return said{code: api.ErrBundleLong}
	}
	data, err := bundle.Make(width, results, blobs, size)
	if err != nil {
		panic(err)
	}
	return said{data: data}
}

// exportByWords is P14.2, done on that disk.
func exportByWords(d *disk.Disk, name string, width int, actions []api.ID, size int, to string) said {
	if !isPutName.MatchString(to) {
		return said{code: api.ErrName}
	}
	built := buildByWords(d, name, width, actions, size)
	if built.code != api.OK {
		return built
	}
	return said{code: api.Code(file.Put(d, to, built.data))}
}
