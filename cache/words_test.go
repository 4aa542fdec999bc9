package cache_test

import (
	"encoding/hex"
	"fmt"
	"regexp"
	"slices"
	"strings"

	"freight/api"
	"freight/disk"
	"freight/file"
	"freight/reach"
	"freight/table"
)

// words does what the chapter lists, line by line: it looks at what the disk
// shows, and its strokes are those of chapter 6.
type words struct {
	disk  *disk.Disk
	name  string
	width int
}

// said is what a call says: what it tells, or a number and the id that it is
// said of.
type said struct {
	told string
	code api.Errno
	id   api.ID
}

func (s said) String() string {
	return fmt.Sprintf("%d %s %.200q", s.code, short(s.id), s.told)
}

var (
	isTitle = regexp.MustCompile(`^[a-z0-9-]{1,32}$`)
	isHex   = regexp.MustCompile(`^[0-9a-f]{64}$`)
)

// opened is the cache in words, or why there is none.
func opened(d *disk.Disk, name string, width int) (*words, said) {
	switch {
	case !isTitle.MatchString(name):
		return nil, said{code: api.ErrName}
	case width < 1 || width > 32:
		return nil, said{code: api.ErrArg}
	case d.Off():
		return nil, said{code: api.ErrOff}
	}
	if err := file.Clean(d, "+c."+name+"."); err != nil {
		return nil, said{code: api.Code(err)}
	}
	return &words{d, name, width}, said{}
}

func (w *words) find(part string) (string, bool) {
	for _, f := range w.disk.Files() {
		if f.Name == "c."+w.name+"."+part {
			return string(f.Data), true
		}
	}
	return "", false
}

// files are the files of blobs.
func (w *words) files() reach.Map {
	files := reach.Map{}
	for _, f := range w.disk.Files() {
		text, is := strings.CutPrefix(f.Name, "c."+w.name+".b.")
		if !is || !isHex.MatchString(text) || strings.Trim(text[2*w.width:], "0") != "" {
			continue
		}
		data, _ := hex.DecodeString(text)
		files[api.ID(data)] = f.Data
	}
	return files
}

// there are those of them that are no damage.
func (w *words) there() reach.Map {
	files := w.files()
	for id, data := range files {
		if len(data) > 4096 || idOf(w.width, string(data)) != id {
			delete(files, id)
		}
	}
	return files
}

func (w *words) isOpen() bool {
	_, is := w.find("import")
	return is
}

func (w *words) results() ([]api.Result, api.Errno) {
	data, is := w.find("table")
	if !is {
		return nil, api.OK
	}
	results, errno := table.Parse([]byte(data))
	if errno != api.OK {
		return nil, api.ErrCache
	}
	return results, api.OK
}

func (w *words) pending() said {
	return said{told: fmt.Sprint(!w.disk.Off() && w.isOpen())}
}

func (w *words) get(id api.ID) said {
	if w.disk.Off() {
		return said{code: api.ErrOff}
	}
	if _, is := w.files()[id]; !is {
		return said{code: api.ErrNoBlob, id: id}
	}
	data, is := w.there()[id]
	if !is {
		return said{code: api.ErrDamage, id: id}
	}
	return said{told: string(data)}
}

func (w *words) blobs() said {
	if w.disk.Off() {
		return said{code: api.ErrOff}
	}
	var texts []string
	for id := range w.files() {
		texts = append(texts, inHex(id))
	}
	slices.Sort(texts)
	return said{told: strings.Join(texts, " ")}
}

func (w *words) table() said {
	if w.disk.Off() {
		return said{code: api.ErrOff}
	}
	results, errno := w.results()
	return said{told: told(results...), code: errno}
}

func (w *words) lay(isPut bool, data string) said {
	id := idOf(w.width, data)
	kept, isThere := w.there()[id]
	_, isFile := w.files()[id]
	switch {
	case len(data) > 4096:
		return said{code: api.ErrLong}
	case w.disk.Off():
		return said{code: api.ErrOff}
	case isPut && w.isOpen():
		return said{code: api.ErrOpen}
	case isThere && string(kept) != data:
		return said{code: api.ErrCollision, id: id}
	case isThere:
		return said{told: inHex(id)}
	case !isFile && len(w.files()) >= 128:
		return said{code: api.ErrBlobs}
	}
	if err := file.Put(w.disk, "c."+w.name+".b."+inHex(id), []byte(data)); err != nil {
		return said{code: api.Code(err)}
	}
	return said{told: inHex(id)}
}

func (w *words) set(r api.Result) said {
	switch {
	case r.Code < 0 || r.Code > 255:
		return said{code: api.ErrArg}
	case w.disk.Off():
		return said{code: api.ErrOff}
	case w.isOpen():
		return said{code: api.ErrOpen}
	}
	results, errno := w.results()
	if errno != api.OK {
		return said{code: errno}
	}
	if _, err := reach.Need(w.there(), r); err != nil {
		return said{code: api.Code(err), id: err.(*api.Fault).ID}
	}
	at := slices.IndexFunc(results, func(one api.Result) bool { return one.Action == r.Action })
	switch {
	case at < 0 && len(results) == 32:
		return said{code: api.ErrActions}
	case at < 0:
		results = append(results, r)
	case results[at] == r:
		return said{}
	default:
		results[at] = r
	}
	slices.SortFunc(results, func(a, b api.Result) int { return strings.Compare(inHex(a.Action), inHex(b.Action)) })
	return w.putTable(results)
}

func (w *words) putTable(results []api.Result) said {
	return said{code: api.Code(file.Put(w.disk, "c."+w.name+".table", []byte(tableOf(results...))))}
}

func (w *words) drop(id api.ID) said {
	if w.disk.Off() {
		return said{code: api.ErrOff}
	}
	if w.isOpen() {
		return said{code: api.ErrOpen}
	}
	if _, is := w.files()[id]; !is {
		return said{code: api.ErrNoBlob, id: id}
	}
	return said{code: api.Code(file.Drop(w.disk, "c."+w.name+".b."+inHex(id)))}
}

func (w *words) swap(results []api.Result) said {
	if !table.Valid(results) {
		return said{code: api.ErrArg}
	}
	if w.disk.Off() {
		return said{code: api.ErrOff}
	}
	data, is := w.find("table")
	if is && data == tableOf(results...) || !is && len(results) == 0 {
		return said{}
	}
	return w.putTable(results)
}
