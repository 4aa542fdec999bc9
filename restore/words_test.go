package restore_test

import (
	"bytes"
	"encoding/binary"
	"encoding/hex"
	"hash/crc32"
	"maps"
	"regexp"
	"slices"
	"strings"

	"freight/api"
	"freight/block"
	"freight/bundle"
	"freight/disk"
	"freight/file"
	"freight/table"
	"freight/tree"
)

// What chapter 17 says, and what it says as 9, 13 and 16, read for a second time: it
// looks at what a disk shows, and has the strokes of chapter 6 alone.

// said is what a call says: a number and the id that it is said of.
type said struct {
	code api.Errno
	id   api.ID
}

// words is a cache on a disk.
type words struct {
	disk  *disk.Disk
	name  string
	width int
}

var (
	isName = regexp.MustCompile(`^[a-z0-9.\-_+]{1,112}$`)
	isHex  = regexp.MustCompile(`^[0-9a-f]{64}$`)
)

func isTable(results []api.Result) bool {
	for i, r := range results {
		if i > 31 || r.Code < 0 || r.Code > 255 || i > 0 && string(results[i-1].Action[:]) >= string(r.Action[:]) {
			return false
		}
	}
	return true
}

// pickByWords is P17.1.
func pickByWords(results []api.Result, actions []api.ID) ([]api.Result, said) {
	if !isTable(results) {
		return nil, said{code: api.ErrArg}
	}
	for _, action := range rising(actions...) {
		if !slices.ContainsFunc(results, func(r api.Result) bool { return r.Action == action }) {
			return nil, said{api.ErrNoAction, action}
		}
	}
	return slices.DeleteFunc(slices.Clone(results), func(r api.Result) bool { return !slices.Contains(actions, r.Action) }), said{}
}

// restore is P17.2.
func (w words) restore(name string, actions []api.ID, policy int) said {
	switch {
	case policy < 1 || policy > 3:
		return said{code: api.ErrArg}
	case w.disk.Off():
		return said{code: api.ErrOff}
	case w.isOpen():
		return said{code: api.ErrOpen}
	}
	face, code := w.look(name)
	if code != api.OK {
		return said{code: code}
	}
	picked, refused := pickByWords(face.Results, actions)
	if refused.code != api.OK {
		return refused
	}
	from := packed{w, name, face}
	found := follow(from.get, picked)
	if found.code != api.OK {
		return found.said
	}
	return w.part(from, picked, found.need, policy)
}

// look is what a bundle's file says it holds, or why it says nothing.
func (w words) look(name string) (api.Face, api.Errno) {
	if !isName.MatchString(name) {
		return api.Face{}, api.ErrName
	}
	data, is := shown(w.disk, name)
	if !is {
		return api.Face{}, api.ErrNone
	}
	face, err := bundle.Parse([]byte(data), w.width)
	return face, api.Code(err)
}

// packed is a bundle in a file.
type packed struct {
	words words
	name  string
	face  api.Face
}

// get reads a blob where the face says, out of the file as it is now.
func (p packed) get(id api.ID) (string, api.Errno) {
	at := slices.IndexFunc(p.face.Blobs, func(place api.Place) bool { return place.ID == id })
	if at < 0 {
		return "", api.ErrNoBlob
	}
	place := p.face.Blobs[at]
	data, _ := shown(p.words.disk, p.name)
	var blob []byte
	for _, k := range covering(p.face, place) {
		b := p.face.Blocks[k]
		if b.At+b.Packed > len(data) {
			return "", api.ErrBeyond // it is another file by now
		}
		raw, errno := block.Open([]byte(data[b.At:b.At+b.Packed]), b)
		if errno != api.OK {
			return "", api.ErrBlock
		}
		from, to := max(place.At-k*p.face.Size, 0), min(place.At+place.N-k*p.face.Size, b.Raw)
		blob = append(blob, raw[from:to]...)
	}
	if idOf(p.words.width, string(blob)) != id {
		return "", api.ErrDigest
	}
	return string(blob), api.OK
}

// covering are the numbers of the blocks that have a byte of a blob.
func covering(face api.Face, place api.Place) []int {
	var list []int
	for k, b := range face.Blocks {
		if max(place.At, k*face.Size) < min(place.At+place.N, k*face.Size+b.Raw) {
			list = append(list, k)
		}
	}
	return list
}

// followed is what chapter 9 says of some results: the need, by rising ids, or why
// there is none; and each id that was asked for.
type followed struct {
	said
	need, asked []api.ID
}

// follow asks round by round, each id once, till the source cannot look.
func follow(get func(api.ID) (string, api.Errno), results []api.Result) followed {
	var f followed
	answers := map[api.ID]string{}
	need, round, lacking, noTrees := map[api.ID]int{}, map[api.ID]int{}, map[api.ID]int{}, map[api.ID]int{}
	ask := func(ids map[api.ID]int) bool {
		for _, id := range rising(slices.Collect(maps.Keys(ids))...) {
			if slices.Contains(f.asked, id) {
				continue
			}
			f.asked = append(f.asked, id)
			data, code := get(id)
			switch code {
			case api.OK:
				answers[id] = data
			case api.ErrNoBlob, api.ErrDamage:
				lacking[id]++
			default:
				f.said = said{code, id}
				return false
			}
		}
		return true
	}
	for _, r := range results {
		need[r.Root]++
		round[r.Root]++
	}
	for range 6 {
		if !ask(round) {
			return f
		}
		next := map[api.ID]int{}
		for id := range round {
			data, is := answers[id]
			entries, errno := tree.Parse([]byte(data))
			if is && errno != api.OK {
				noTrees[id]++
			}
			for _, e := range entries {
				need[e.ID]++
				if e.Kind == api.KindFolder {
					next[e.ID]++
				}
			}
		}
		round = next
	}
	switch {
	case !ask(need):
	case len(noTrees) > 0:
		f.said = said{api.ErrNoTree, least(noTrees)}
	case len(round) > 0:
		f.said = said{api.ErrDeep, least(round)}
	case len(lacking) > 0:
		f.said = said{api.ErrMissing, least(lacking)}
	default:
		f.need = rising(slices.Collect(maps.Keys(need))...)
	}
	return f
}

func least(ids map[api.ID]int) api.ID {
	return rising(slices.Collect(maps.Keys(ids))...)[0]
}

// readsOf are the places that a restore may read of the bundle's file (P17.3),
// found out on a disk as it is ahead of the call.
func (w words) readsOf(name string, actions []api.ID, policy int) []api.Span {
	if policy < 1 || policy > 3 || w.disk.Off() || w.isOpen() {
		return nil
	}
	data, is := shown(w.disk, name)
	if !is || len(data) < 31 {
		return nil
	}
	face, code := w.look(name)
	spans := frame(name, data)
	if code != api.OK {
		return spans
	}
	picked, refused := pickByWords(face.Results, actions)
	if refused.code != api.OK {
		return spans
	}
	from := packed{w, name, face}
	return append(spans, blocksOf(from, follow(from.get, picked).asked)...)
}

// frame are the trailer, the head, the entries and the index; of bytes that are no
// bundle the places that Look may know of them.
func frame(name, data string) []api.Span {
	trailer := []byte(data[len(data)-31:])
	number := func(k int) int { return int(binary.BigEndian.Uint32(trailer[4*k:])) }
	return []api.Span{{Name: name, At: len(data) - 31, N: 31}, {Name: name, At: 0, N: 6}, {Name: name, At: number(0), N: number(1)}, {Name: name, At: number(3), N: number(4)}}
}

// blocksOf are the packed bytes of the blocks that cover these blobs.
func blocksOf(from packed, ids []api.ID) []api.Span {
	var spans []api.Span
	for _, place := range from.face.Blobs {
		if !slices.Contains(ids, place.ID) {
			continue
		}
		for _, k := range covering(from.face, place) {
			spans = append(spans, api.Span{Name: from.name, At: from.face.Blocks[k].At, N: from.face.Blocks[k].Packed})
		}
	}
	return spans
}

// number is the shortest form, by another hand.
func number(n int) string { return string(binary.AppendUvarint(nil, uint64(n))) }

func text(data string) string { return number(len(data)) + data }

func fixed(n int) string { return string(binary.BigEndian.AppendUint32(nil, uint32(n))) }

// tableForm is the form of a table.
func tableForm(results []api.Result) string {
	form := number(len(results))
	for _, r := range results {
		form += string(r.Action[:]) + string(r.Root[:]) + string([]byte{byte(r.Code)})
	}
	return form
}

// journalForm is the form of a journal.
func journalForm(j api.Journal) string {
	body := "J" + text(j.Bundle) + fixed(j.Entries) + fixed(j.Index) + text(tableForm(j.Results)) + number(len(j.Need))
	for _, id := range j.Need {
		body += string(id[:])
	}
	body += text(tableForm(j.Table))
	return body + fixed(int(crc32.ChecksumIEEE([]byte(body))))
}

func (w words) importFile() string { return "c." + w.name + ".import" }

func (w words) isOpen() bool {
	_, is := shown(w.disk, w.importFile())
	return is
}

// blobFiles are all files of blobs, by their ids.
func (w words) blobFiles() map[api.ID]string {
	files := map[api.ID]string{}
	for _, f := range w.disk.Files() {
		text, is := strings.CutPrefix(f.Name, "c."+w.name+".b.")
		if !is || !isHex.MatchString(text) || strings.Trim(text[2*w.width:], "0") != "" {
			continue
		}
		var id api.ID
		hex.Decode(id[:], []byte(text))
		files[id] = string(f.Data)
	}
	return files
}

// there are the blobs that are there, which damage is not.
func (w words) there() map[api.ID]string {
	there := w.blobFiles()
	maps.DeleteFunc(there, func(id api.ID, data string) bool { return len(data) > 4096 || idOf(w.width, data) != id })
	return there
}

// get is a blob of the cache.
func (w words) get(id api.ID) (string, api.Errno) {
	if data, is := w.there()[id]; is {
		return data, api.OK
	}
	return "", api.ErrNoBlob
}

// table is the cache's; false, if its file holds none.
func (w words) table() ([]api.Result, bool) {
	data, is := shown(w.disk, "c."+w.name+".table")
	if !is {
		return nil, true
	}
	results, errno := table.Parse([]byte(data))
	return results, errno == api.OK
}

// part is P16.4, behind what a restore has asked already.
func (w words) part(from packed, results []api.Result, need []api.ID, policy int) said {
	union, refused := w.compare(from, results, need, policy)
	if refused.code != api.OK {
		return refused
	}
	j := api.Journal{Bundle: from.name, Entries: from.face.Entries, Index: from.face.Index, Results: results, Need: need, Table: union}
	if err := file.Put(w.disk, w.importFile(), []byte(journalForm(j))); err != nil {
		return said{code: api.Code(err)}
	}
	return w.carryOn(j)
}

// compare is P15.1, of blobs that were read: the table that would be, or why there
// is none.
func (w words) compare(from packed, results []api.Result, need []api.ID, policy int) ([]api.Result, said) {
	held, is := w.table()
	if !is {
		return nil, said{code: api.ErrCache}
	}
	there, files, clashes := w.there(), w.blobFiles(), map[api.ID]int{}
	before := len(files)
	for _, id := range need {
		theirs, _ := from.get(id)
		if ours, is := there[id]; is && ours != theirs {
			clashes[id]++
		}
		files[id] = ""
	}
	if len(clashes) > 0 {
		return nil, said{api.ErrCollision, least(clashes)}
	}
	union, refused := unionByWords(held, results, policy)
	if refused.code != api.OK {
		return nil, refused
	}
	if len(files) > before && len(files) > 128 {
		return nil, said{code: api.ErrBlobs}
	}
	return union, said{}
}

func unionByWords(ours, theirs []api.Result, policy int) ([]api.Result, said) {
	union, conflicts := map[api.ID]api.Result{}, map[api.ID]int{}
	for _, r := range ours {
		union[r.Action] = r
	}
	for _, r := range theirs {
		other, both := union[r.Action]
		if both && other != r {
			conflicts[r.Action]++
		}
		if !both || policy == api.Take {
			union[r.Action] = r
		}
	}
	if len(conflicts) > 0 && policy == api.Fail {
		return nil, said{api.ErrConflict, least(conflicts)}
	}
	if len(union) > 32 {
		return nil, said{code: api.ErrActions}
	}
	return slices.SortedFunc(maps.Values(union), func(a, b api.Result) int { return bytes.Compare(a.Action[:], b.Action[:]) }), said{}
}

// carryOn is P16.5 from its 3 on.
func (w words) carryOn(j api.Journal) said {
	face, code := w.look(j.Bundle)
	if code != api.OK || face.Entries != j.Entries || face.Index != j.Index {
		return said{code: api.ErrOther}
	}
	for _, id := range j.Need {
		if s := w.layOne(packed{w, j.Bundle, face}, id); s.code != api.OK {
			return s
		}
	}
	if found := follow(w.get, j.Results); found.code != api.OK {
		return said{api.ErrOther, found.id}
	}
	if held, is := w.table(); !is || !slices.Equal(held, j.Table) {
		if err := file.Put(w.disk, "c."+w.name+".table", []byte(tableForm(j.Table))); err != nil {
			return said{code: api.Code(err)}
		}
	}
	if errno := w.disk.Remove(w.importFile()); errno != api.OK {
		return said{code: errno}
	}
	return said{code: w.disk.SyncNames()}
}

func (w words) layOne(from packed, id api.ID) said {
	blob, code := from.get(id)
	if code != api.OK {
		return said{api.ErrOther, id}
	}
	files := w.blobFiles()
	ours, isThere := w.there()[id]
	_, hasFile := files[id]
	switch {
	case isThere && ours == blob:
		return said{}
	case isThere:
		return said{api.ErrOther, id}
	case !hasFile && len(files) >= 128:
		return said{api.ErrBlobs, id}
	}
	err := file.Put(w.disk, blobName(w.name, id), []byte(blob))
	switch code := api.Code(err); code {
	case api.OK, api.ErrOff:
		return said{code: code}
	default:
		return said{code, id}
	}
}
