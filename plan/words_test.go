package plan_test

import (
	"bytes"
	"encoding/hex"
	"errors"
	"maps"
	"regexp"
	"slices"
	"strings"

	"freight/api"
	"freight/disk"
	"freight/table"
)

// What chapter 15 says, read for a second time: it looks at what the disk shows.

// said is what Of says: a change, or a number and the id that it is said of.
type said struct {
	adds  []api.ID
	table []api.Result
	code  api.Errno
	id    api.ID
}

var isHex = regexp.MustCompile(`^[0-9a-f]{64}$`)

// filesByWords are the files of blobs of a cache, by their ids.
func filesByWords(d *disk.Disk, name string, width int) map[api.ID]string {
	files := map[api.ID]string{}
	for _, f := range d.Files() {
		text, is := strings.CutPrefix(f.Name, "c."+name+".b.")
		if !is || !isHex.MatchString(text) || strings.Trim(text[2*width:], "0") != "" {
			continue
		}
		var id api.ID
		hex.Decode(id[:], []byte(text))
		files[id] = string(f.Data)
	}
	return files
}

// tableByWords is the cache's table by actions; false, if its file holds none.
func tableByWords(d *disk.Disk, name string) (map[api.ID]api.Result, bool) {
	held := map[api.ID]api.Result{}
	for _, f := range d.Files() {
		if f.Name != "c."+name+".table" {
			continue
		}
		results, errno := table.Parse(f.Data)
		if errno != api.OK {
			return nil, false
		}
		for _, r := range results {
			held[r.Action] = r
		}
	}
	return held, true
}

func isArgument(a asked) bool {
	if a.source == nil || a.policy < 1 || a.policy > 3 || len(a.results) > 32 {
		return false
	}
	var last []byte
	for _, r := range a.results {
		if r.Code < 0 || r.Code > 255 || last != nil && string(last) >= string(r.Action[:]) {
			return false
		}
		last = r.Action[:]
	}
	last = nil
	for _, id := range a.need {
		if last != nil && string(last) >= string(id[:]) {
			return false
		}
		last = id[:]
	}
	return true
}

// blobsByWords are the source's blobs of the need, or why there are none.
func blobsByWords(width int, a asked) (map[api.ID]string, said) {
	blobs := map[api.ID]string{}
	for _, id := range a.need {
		data, err := a.source.Get(id)
		var number api.Errno
		switch has := errors.As(err, &number); {
		case err != nil && has && number > 0:
			return nil, said{code: number, id: id}
		case err != nil:
			return nil, said{code: api.ErrMissing, id: id}
		case len(data) > 4096:
			return nil, said{code: api.ErrLong, id: id}
		case idOf(width, string(data)) != id:
			return nil, said{code: api.ErrDigest, id: id}
		}
		blobs[id] = string(data)
	}
	return blobs, said{}
}

func least(ids []api.ID) api.ID {
	return slices.MinFunc(ids, func(a, b api.ID) int { return bytes.Compare(a[:], b[:]) })
}

// unionByWords is the union by the policy, or why there is none.
func unionByWords(held map[api.ID]api.Result, a asked) said {
	var conflicts []api.ID
	union := maps.Clone(held)
	for _, r := range a.results {
		ours, both := held[r.Action]
		if both && ours != r {
			conflicts = append(conflicts, r.Action)
		}
		if !both || a.policy == api.Take {
			union[r.Action] = r
		}
	}
	if len(conflicts) > 0 && a.policy == api.Fail {
		return said{code: api.ErrConflict, id: least(conflicts)}
	}
	if len(union) > 32 {
		return said{code: api.ErrActions}
	}
	var s said
	for _, action := range rising(slices.Collect(maps.Keys(union))) {
		s.table = append(s.table, union[action])
	}
	return s
}

// ofByWords is P15.1.
func ofByWords(d *disk.Disk, name string, width int, a asked) said {
	if !isArgument(a) {
		return said{code: api.ErrArg}
	}
	if d.Off() {
		return said{code: api.ErrOff}
	}
	held, is := tableByWords(d, name)
	if !is {
		return said{code: api.ErrCache}
	}
	blobs, refused := blobsByWords(width, a)
	if refused.code != api.OK {
		return refused
	}
	files := filesByWords(d, name, width)
	var clashes, adds []api.ID
	fresh := 0
	for id, theirs := range blobs {
		ours, is := files[id]
		there := is && len(ours) <= 4096 && idOf(width, ours) == id
		if there && ours != theirs {
			clashes = append(clashes, id)
		}
		if !there {
			adds = append(adds, id)
		}
		if !is {
			fresh++
		}
	}
	if len(clashes) > 0 {
		return said{code: api.ErrCollision, id: least(clashes)}
	}
	union := unionByWords(held, a)
	if union.code != api.OK {
		return union
	}
	if fresh > 0 && len(files)+fresh > 128 {
		return said{code: api.ErrBlobs}
	}
	return said{adds: rising(adds), table: union.table}
}
