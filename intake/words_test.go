package intake_test

import (
	"bytes"
	"encoding/binary"
	"encoding/hex"
	"errors"
	"hash/crc32"
	"maps"
	"regexp"
	"slices"
	"strings"

	"freight/api"
	"freight/block"
	"freight/bundle"
	"freight/disk"
	"freight/file"
	"freight/reach"
	"freight/reader"
	"freight/table"
	"freight/tree"
)

// What chapter 16 says, read for a second time: it looks at what a disk shows, and
// has the strokes of chapter 6 alone.

// said is what a call says: a number and the id that it is said of.
type said struct {
	code api.Errno
	id   api.ID
}

func saidOf(err error) said {
	var fault *api.Fault
	errors.As(err, &fault)
	return said{api.Code(err), fault.ID}
}

// source is a Reader, and the disk that it reads; nil, if it is none.
type source struct {
	reader *reader.Reader
	disk   *disk.Disk
}

// words is a cache on a disk.
type words struct {
	disk  *disk.Disk
	name  string
	width int
}

var (
	isName = regexp.MustCompile(`^[a-z0-9.\-_+]{1,112}$`)
	isHex  = regexp.MustCompile(`^[0-9a-f]{64}$`)
)

func isTable(results []api.Result) bool {
	for i, r := range results {
		if i > 31 || r.Code < 0 || r.Code > 255 || i > 0 && string(results[i-1].Action[:]) >= string(r.Action[:]) {
			return false
		}
	}
	return true
}

func isNeed(ids []api.ID) bool {
	for i := range ids {
		if i > 63 || i > 0 && string(ids[i-1][:]) >= string(ids[i][:]) {
			return false
		}
	}
	return true
}

func isJournal(j api.Journal) bool {
	inRange := func(n int) bool { return n >= 0 && n <= 4294967295 }
	return isName.MatchString(j.Bundle) && inRange(j.Entries) && inRange(j.Index) && isTable(j.Results) && isNeed(j.Need) && isTable(j.Table)
}

// number is the shortest form, by another hand.
func number(n int) string { return string(binary.AppendUvarint(nil, uint64(n))) }

func text(data string) string { return number(len(data)) + data }

func fixed(n int) string { return string(binary.BigEndian.AppendUint32(nil, uint32(n))) }

// tableForm is the form of a table.
func tableForm(results []api.Result) string {
	form := number(len(results))
	for _, r := range results {
		form += string(r.Action[:]) + string(r.Root[:]) + string([]byte{byte(r.Code)})
	}
	return form
}

// summed is a journal's form, its sum put behind all that stands ahead of it.
func summed(body string) string { return body + fixed(int(crc32.ChecksumIEEE([]byte(body)))) }

// bodyByWords is a journal's form without the sum.
func bodyByWords(j api.Journal) string {
	body := "J" + text(j.Bundle) + fixed(j.Entries) + fixed(j.Index) + text(tableForm(j.Results)) + number(len(j.Need))
	for _, id := range j.Need {
		body += string(id[:])
	}
	return body + text(tableForm(j.Table))
}

func formByWords(j api.Journal) string { return summed(bodyByWords(j)) }

// cutting takes pieces off a row of bytes.
type cutting struct {
	left string
	bad  bool
}

func (c *cutting) take(n int) string {
	if n < 0 || n > len(c.left) {
		c.bad, c.left = true, ""
		return ""
	}
	taken := c.left[:n]
	c.left = c.left[n:]
	return taken
}

func (c *cutting) number() int {
	n, size := binary.Uvarint([]byte(c.left))
	if size < 1 || n > 2147483647 || number(int(n)) != c.left[:size] {
		c.bad, c.left = true, ""
		return 0
	}
	c.take(size)
	return int(n)
}

func (c *cutting) fixed() int {
	four := c.take(4)
	if c.bad {
		return 0
	}
	return int(binary.BigEndian.Uint32([]byte(four)))
}

func (c *cutting) table() []api.Result {
	results, errno := table.Parse([]byte(c.take(c.number())))
	c.bad = c.bad || errno != api.OK
	return results
}

// decodeByWords is the journal whose form that is; false, if it is that of none.
func decodeByWords(data string) (api.Journal, bool) {
	var j api.Journal
	c := &cutting{left: data}
	isMarked := c.take(1) == "J"
	j.Bundle = c.take(c.number())
	j.Entries, j.Index = c.fixed(), c.fixed()
	j.Results = c.table()
	for range c.number() {
		if c.bad || len(j.Need) > 64 {
			return api.Journal{}, false
		}
		var id api.ID
		copy(id[:], c.take(32))
		j.Need = append(j.Need, id)
	}
	j.Table = c.table()
	sum := c.fixed()
	if c.bad || !isMarked || c.left != "" || !isJournal(j) || sum != int(crc32.ChecksumIEEE([]byte(data[:len(data)-4]))) {
		return api.Journal{}, false
	}
	return j, true
}

func (w words) importFile() string { return "c." + w.name + ".import" }

func (w words) isOpen() bool {
	_, is := shown(w.disk, w.importFile())
	return is
}

// blobFiles are all files of blobs, by their ids.
func (w words) blobFiles() map[api.ID]string {
	files := map[api.ID]string{}
	for _, f := range w.disk.Files() {
		text, is := strings.CutPrefix(f.Name, "c."+w.name+".b.")
		if !is || !isHex.MatchString(text) || strings.Trim(text[2*w.width:], "0") != "" {
			continue
		}
		var id api.ID
		hex.Decode(id[:], []byte(text))
		files[id] = string(f.Data)
	}
	return files
}

// there are the blobs that are there, which damage is not.
func (w words) there() map[api.ID]string {
	there := w.blobFiles()
	maps.DeleteFunc(there, func(id api.ID, data string) bool { return len(data) > 4096 || idOf(w.width, data) != id })
	return there
}

// table is the cache's; false, if its file holds none.
func (w words) table() ([]api.Result, bool) {
	data, is := shown(w.disk, "c."+w.name+".table")
	if !is {
		return nil, true
	}
	results, errno := table.Parse([]byte(data))
	return results, errno == api.OK
}

func least(ids map[api.ID]int) api.ID {
	return rising(slices.Collect(maps.Keys(ids))...)[0]
}

// needByWords is the need of results (DOC.md, Words), or why it is not whole.
func needByWords(there map[api.ID]string, results []api.Result) (map[api.ID]int, said) {
	need, noTrees, missing := map[api.ID]int{}, map[api.ID]int{}, map[api.ID]int{}
	round := map[api.ID]int{}
	for _, r := range results {
		round[r.Root]++
		need[r.Root]++
	}
	for range 6 {
		next := map[api.ID]int{}
		for id := range round {
			data, is := there[id]
			if !is {
				continue
			}
			entries, errno := tree.Parse([]byte(data))
			if errno != api.OK {
				noTrees[id]++
			}
			for _, e := range entries {
				need[e.ID]++
				if e.Kind == api.KindFolder {
					next[e.ID]++
				}
			}
		}
		round = next
	}
	for id := range need {
		if _, is := there[id]; !is {
			missing[id]++
		}
	}
	switch {
	case len(noTrees) > 0:
		return nil, said{api.ErrNoTree, least(noTrees)}
	case len(round) > 0:
		return nil, said{api.ErrDeep, least(round)}
	case len(missing) > 0:
		return nil, said{api.ErrMissing, least(missing)}
	}
	return need, said{}
}

// compare is chapter 15: the table that would be, or why there is none.
func (w words) compare(s reach.Source, results []api.Result, need []api.ID, policy int) ([]api.Result, said) {
	held, is := w.table()
	if !is {
		return nil, said{code: api.ErrCache}
	}
	there, files, clashes := w.there(), w.blobFiles(), map[api.ID]int{}
	for _, id := range need {
		data, err := s.Get(id)
		switch ours, is := there[id]; {
		case err != nil:
			return nil, said{api.Code(err), id}
		case idOf(w.width, string(data)) != id:
			return nil, said{api.ErrDigest, id}
		case is && ours != string(data):
			clashes[id]++
		}
	}
	if len(clashes) > 0 {
		return nil, said{api.ErrCollision, least(clashes)}
	}
	union, refused := unionByWords(held, results, policy)
	if refused.code != api.OK {
		return nil, refused
	}
	before := len(files)
	for _, id := range need {
		files[id] = ""
	}
	if len(files) > before && len(files) > 128 {
		return nil, said{code: api.ErrBlobs}
	}
	return union, said{}
}

func unionByWords(ours, theirs []api.Result, policy int) ([]api.Result, said) {
	union, conflicts := map[api.ID]api.Result{}, map[api.ID]int{}
	for _, r := range ours {
		union[r.Action] = r
	}
	for _, r := range theirs {
		other, both := union[r.Action]
		if both && other != r {
			conflicts[r.Action]++
		}
		if !both || policy == api.Take {
			union[r.Action] = r
		}
	}
	if len(conflicts) > 0 && policy == api.Fail {
		return nil, said{api.ErrConflict, least(conflicts)}
	}
	if len(union) > 32 {
		return nil, said{code: api.ErrActions}
	}
	return slices.SortedFunc(maps.Values(union), func(a, b api.Result) int { return bytes.Compare(a.Action[:], b.Action[:]) }), said{}
}

// importing is P16.3.
func (w words) importing(name string, policy int) said {
	switch {
	case policy < 1 || policy > 3:
		return said{code: api.ErrArg}
	case !isName.MatchString(name):
		return said{code: api.ErrName}
	case w.disk.Off():
		return said{code: api.ErrOff}
	case w.isOpen():
		return said{code: api.ErrOpen}
	}
	data, is := shown(w.disk, name)
	if !is {
		return said{code: api.ErrNone}
	}
	face, err := bundle.Verify([]byte(data), w.width)
	if err != nil {
		return saidOf(err)
	}
	blobs := reach.Map{}
	for _, place := range face.Blobs {
		blob, _ := w.blobOf(name, face, place.ID)
		blobs[place.ID] = []byte(blob)
	}
	j := api.Journal{Bundle: name, Entries: face.Entries, Index: face.Index, Results: face.Results, Need: rising(slices.Collect(maps.Keys(blobs))...)}
	return w.take(blobs, j, policy)
}

// part is P16.4.
func (w words) part(from source, results []api.Result, need []api.ID, policy int) said {
	switch {
	case policy < 1 || policy > 3 || !isTable(results) || !isNeed(need):
		return said{code: api.ErrArg}
	case w.disk.Off() || from.disk.Off():
		return said{code: api.ErrOff}
	case w.isOpen():
		return said{code: api.ErrOpen}
	}
	face := from.reader.Face()
	return w.take(from.reader, api.Journal{Bundle: from.reader.Name(), Entries: face.Entries, Index: face.Index, Results: results, Need: need}, policy)
}

func (w words) take(s reach.Source, j api.Journal, policy int) said {
	union, refused := w.compare(s, j.Results, j.Need, policy)
	if refused.code != api.OK {
		return refused
	}
	j.Table = union
	if err := file.Put(w.disk, w.importFile(), []byte(formByWords(j))); err != nil {
		return said{code: api.Code(err)}
	}
	return w.carryOn(j)
}

// resume is P16.5.
func (w words) resume() said {
	if w.disk.Off() {
		return said{code: api.ErrOff}
	}
	data, is := shown(w.disk, w.importFile())
	if !is {
		return said{code: api.ErrNoImport}
	}
	j, is := decodeByWords(data)
	if !is {
		return said{code: api.ErrJournal}
	}
	return w.carryOn(j)
}

// carryOn is P16.5 from its 3 on.
func (w words) carryOn(j api.Journal) said {
	data, is := shown(w.disk, j.Bundle)
	if !is {
		return said{code: api.ErrOther}
	}
	face, err := bundle.Parse([]byte(data), w.width)
	if err != nil || face.Entries != j.Entries || face.Index != j.Index {
		return said{code: api.ErrOther}
	}
	for _, id := range j.Need {
		if s := w.layOne(j.Bundle, face, id); s.code != api.OK {
			return s
		}
	}
	if _, s := needByWords(w.there(), j.Results); s.code != api.OK {
		return said{api.ErrOther, s.id}
	}
	if held, is := w.table(); !is || !slices.Equal(held, j.Table) {
		if err := file.Put(w.disk, "c."+w.name+".table", []byte(tableForm(j.Table))); err != nil {
			return said{code: api.Code(err)}
		}
	}
	return w.abandon()
}

func (w words) layOne(name string, face api.Face, id api.ID) said {
	blob, is := w.blobOf(name, face, id)
	if !is {
		return said{api.ErrOther, id}
	}
	files := w.blobFiles()
	ours, isThere := w.there()[id]
	_, hasFile := files[id]
	switch {
	case isThere && ours == blob:
		return said{}
	case isThere:
		return said{api.ErrOther, id}
	case !hasFile && len(files) >= 128:
		return said{api.ErrBlobs, id}
	}
	err := file.Put(w.disk, blobName(w.name, id), []byte(blob))
	if err == nil {
		return said{}
	}
	if code := api.Code(err); code != api.ErrOff {
		return said{code, id}
	}
	return said{code: api.ErrOff}
}

// blobOf reads a blob where the face says, out of the file as it is now; false,
// if it cannot be read.
func (w words) blobOf(name string, face api.Face, id api.ID) (string, bool) {
	at := slices.IndexFunc(face.Blobs, func(p api.Place) bool { return p.ID == id })
	if at < 0 {
		return "", false
	}
	place := face.Blobs[at]
	data, _ := shown(w.disk, name)
	var blob []byte
	for k, b := range face.Blocks {
		from, to := max(place.At, k*face.Size), min(place.At+place.N, k*face.Size+b.Raw)
		if from >= to {
			continue
		}
		if b.At+b.Packed > len(data) {
			return "", false
		}
		raw, errno := block.Open([]byte(data[b.At:b.At+b.Packed]), b)
		if errno != api.OK {
			return "", false
		}
		blob = append(blob, raw[from-k*face.Size:to-k*face.Size]...)
	}
	return string(blob), idOf(w.width, string(blob)) == id
}

// abandon is P16.6, and the end of P16.5.
func (w words) abandon() said {
	if w.disk.Off() {
		return said{code: api.ErrOff}
	}
	if !w.isOpen() {
		return said{code: api.ErrNoImport}
	}
	if errno := w.disk.Remove(w.importFile()); errno != api.OK {
		return said{code: errno}
	}
	return said{code: w.disk.SyncNames()}
}
