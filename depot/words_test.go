package depot_test

import (
	"encoding/binary"
	"encoding/hex"
	"hash/crc32"
	"maps"
	"regexp"
	"slices"
	"strings"

	"freight/api"
	"freight/block"
	"freight/bundle"
	"freight/delta"
	"freight/disk"
	"freight/table"
	"freight/tree"
)

// What chapter 19 says of each step, and what it says by the chapters that a step
// goes by, read for a second time: it looks at what a disk shows, and makes the
// strokes of the lists itself.

// said is what is refused: a number and the id that it is said of.
type said struct {
	code api.Errno
	id   api.ID
}

func (s said) answer() api.Answer { return api.Answer{Code: s.code, ID: s.id} }

// words is a depot: its disk and its width.
type words struct {
	disk  *disk.Disk
	width int
}

var (
	isTitle = regexp.MustCompile(`^[a-z0-9\-]{1,32}$`)
	isLaid  = regexp.MustCompile(`^[a-z0-9.\-_][a-z0-9.\-_+]{0,110}$`)
	isHex   = regexp.MustCompile(`^[0-9a-f]{64}$`)
)

// do is P19.3 and P19.4.
func (w words) do(s api.Step) api.Answer {
	if refused := w.ahead(s); refused != api.OK {
		return api.Answer{Code: refused}
	}
	if strings.Contains(rowOf(s.Kind).titles, "C") {
		if errno := w.clean("+c." + s.Cache + "."); errno != api.OK {
			return api.Answer{Code: errno}
		}
		return shelf{w, s.Cache}.do(s)
	}
	return w.doFiles(s)
}

// ahead is what stands ahead of what a kind does.
func (w words) ahead(s api.Step) api.Errno {
	if s.Kind < firstKind || s.Kind > lastKind {
		return api.ErrStep
	}
	for _, letter := range rowOf(s.Kind).titles {
		if !isTitle.MatchString(*titled(&s, letter)) {
			return api.ErrName
		}
	}
	switch isPower := s.Kind == api.StepPlan || s.Kind == api.StepCrash; {
	case s.Kind == api.StepWrite && len(s.Data) > 131072:
		return api.ErrLong
	case w.disk.Room() == 0, w.disk.Off() && !isPower:
		return api.ErrOff
	}
	return api.OK
}

// doFiles are the kinds without a cache.
func (w words) doFiles(s api.Step) api.Answer {
	switch s.Kind {
	case api.StepSign:
		return w.sign(s)
	case api.StepDelta:
		return w.differ(s)
	case api.StepApply:
		return w.apply(s)
	case api.StepVerify, api.StepList:
		return w.tell(s)
	case api.StepWrite:
		return api.Answer{Code: w.lay("f."+s.File, s.Data)}
	case api.StepRead:
		data, is := w.file("f." + s.File)
		if !is {
			return api.Answer{Code: api.ErrNone}
		}
		return api.Answer{Data: []byte(data)}
	case api.StepErase:
		return api.Answer{Code: w.remove("f." + s.File)}
	case api.StepPlan:
		w.disk.Plan(s.Plan)
		return api.Answer{}
	case api.StepCrash:
		w.disk.Crash(s.Picks...)
		return api.Answer{Code: w.clean("+")}
	}
	if !isLaid.MatchString(s.To) {
		return api.Answer{Code: api.ErrName}
	}
	return api.Answer{Code: w.lay(s.To, s.Data)}
}

func (w words) sign(s api.Step) api.Answer {
	base, is := w.file("f." + s.File)
	if !is {
		return api.Answer{Code: api.ErrNone}
	}
	signature, errno := delta.Sign(w.width, []byte(base), s.Size)
	if errno != api.OK {
		return api.Answer{Code: errno}
	}
	form, _ := delta.Encode(signature)
	return api.Answer{Code: w.lay("f."+s.To, form)}
}

func (w words) differ(s api.Step) api.Answer {
	form, is := w.file("f." + s.File)
	if !is {
		return api.Answer{Code: api.ErrNone}
	}
	signature, errno := delta.Decode([]byte(form))
	if errno != api.OK {
		return api.Answer{Code: errno}
	}
	target, is := w.file("f." + s.With)
	if !is {
		return api.Answer{Code: api.ErrNone}
	}
	made, errno := delta.Make(signature, []byte(target))
	if errno != api.OK {
		return api.Answer{Code: errno}
	}
	return api.Answer{Code: w.lay("f."+s.To, made)}
}

func (w words) apply(s api.Step) api.Answer {
	base, is := w.file("f." + s.File)
	form, both := w.file("f." + s.With)
	if !is || !both {
		return api.Answer{Code: api.ErrNone}
	}
	made, errno := delta.Apply([]byte(base), []byte(form))
	if errno != api.OK {
		return api.Answer{Code: errno}
	}
	return api.Answer{Code: w.lay("f."+s.To, made)}
}

func (w words) tell(s api.Step) api.Answer {
	data, is := w.file("f." + s.File)
	if !is {
		return api.Answer{Code: api.ErrNone}
	}
	look := bundle.Parse
	if s.Kind == api.StepVerify {
		look = bundle.Verify
	}
	face, err := look([]byte(data), w.width)
	if err != nil {
		return saidOf(err).answer()
	}
	return api.Answer{Results: face.Results, Blobs: face.Blobs}
}

// saidOf is what a fault says.
func saidOf(err error) said {
	fault, _ := err.(*api.Fault)
	return said{api.Code(err), fault.ID}
}

// file is all of a file.
func (w words) file(name string) (string, bool) {
	size, errno := w.disk.Size(name)
	if errno != api.OK {
		return "", false
	}
	data, _ := w.disk.Read(name, 0, size)
	return string(data), true
}

// lay are the strokes of 6's Put, of a name that it takes.
func (w words) lay(name string, data []byte) api.Errno {
	plus := "+" + name
	_, lies := w.file(plus)
	if lies {
		if errno := w.disk.Remove(plus); errno != api.OK {
			return errno
		}
	}
	if errno := w.disk.Create(plus); errno != api.OK {
		if lies && errno != api.ErrOff && w.disk.SyncNames() != api.OK {
			return api.ErrOff
		}
		return errno
	}
	if errno := w.disk.Append(plus, data); errno != api.OK {
		if errno != api.ErrOff && (w.disk.Remove(plus) != api.OK || w.disk.SyncNames() != api.OK) {
			return api.ErrOff
		}
		return errno
	}
	for _, stroke := range []func() api.Errno{
		func() api.Errno { return w.disk.Sync(plus) },
		func() api.Errno { return w.disk.Rename(plus, name) },
		w.disk.SyncNames,
	} {
		if errno := stroke(); errno != api.OK {
			return errno
		}
	}
	return api.OK
}

// remove are the strokes of 6's Drop.
func (w words) remove(name string) api.Errno {
	if errno := w.disk.Remove(name); errno != api.OK {
		return errno
	}
	return w.disk.SyncNames()
}

// clean are the strokes of 6's Clean.
func (w words) clean(prefix string) api.Errno {
	names := w.disk.List(prefix)
	for _, name := range names {
		if errno := w.disk.Remove(name); errno != api.OK {
			return errno
		}
	}
	if len(names) == 0 {
		return api.OK
	}
	return w.disk.SyncNames()
}

// caches is P19.5.
func (w words) caches() []string {
	found := map[string]int{}
	for _, name := range w.disk.List("") {
		if pieces := strings.SplitN(name, ".", 3); len(pieces) == 3 && pieces[0] == "c" && isTitle.MatchString(pieces[1]) {
			found[pieces[1]]++
		}
	}
	return slices.Sorted(maps.Keys(found))
}

// shelf is a cache, opened.
type shelf struct {
	words
	name string
}

func (c shelf) do(s api.Step) api.Answer {
	switch s.Kind {
	case api.StepPut:
		id, refused := c.put(string(s.Data))
		if refused.code != api.OK {
			return refused.answer()
		}
		return api.Answer{ID: id}
	case api.StepSet:
		return c.set(s.Result).answer()
	case api.StepDrop:
		return c.drop(s.ID).answer()
	case api.StepGet:
		data, code := c.get(s.ID)
		if code != api.OK {
			return said{code, s.ID}.answer()
		}
		return api.Answer{Data: []byte(data)}
	case api.StepCache:
		results, is := c.table()
		if !is {
			return api.Answer{Code: api.ErrCache}
		}
		return api.Answer{IDs: keysOf(c.blobFiles()), Results: results}
	case api.StepExport:
		return c.export(s).answer()
	case api.StepImport:
		return c.importing("f."+s.File, s.Policy).answer()
	case api.StepResume:
		return c.resume().answer()
	case api.StepAbandon:
		return c.abandon().answer()
	}
	return c.restore("f."+s.File, s.Actions, s.Policy).answer()
}

func (c shelf) importFile() string { return "c." + c.name + ".import" }

func (c shelf) tableFile() string { return "c." + c.name + ".table" }

func (c shelf) isOpen() bool {
	_, is := c.file(c.importFile())
	return is
}

// blobFiles are all files of blobs, by their ids.
func (c shelf) blobFiles() map[api.ID]string {
	files := map[api.ID]string{}
	for _, name := range c.disk.List("c." + c.name + ".b.") {
		text := strings.TrimPrefix(name, "c."+c.name+".b.")
		if !isHex.MatchString(text) || strings.Trim(text[2*c.width:], "0") != "" {
			continue
		}
		var id api.ID
		hex.Decode(id[:], []byte(text))
		files[id], _ = c.file(name)
	}
	return files
}

// get is a blob of the cache.
func (c shelf) get(id api.ID) (string, api.Errno) {
	data, is := c.blobFiles()[id]
	switch {
	case !is:
		return "", api.ErrNoBlob
	case len(data) > 4096 || idOf(c.width, data) != id:
		return "", api.ErrDamage
	}
	return data, api.OK
}

// table is the cache's; false, if its file holds none.
func (c shelf) table() ([]api.Result, bool) {
	data, is := c.file(c.tableFile())
	if !is {
		return nil, true
	}
	results, errno := table.Parse([]byte(data))
	return results, errno == api.OK
}

// put is P10.7.
func (c shelf) put(data string) (api.ID, said) {
	switch {
	case len(data) > 4096:
		return api.ID{}, said{code: api.ErrLong}
	case c.isOpen():
		return api.ID{}, said{code: api.ErrOpen}
	}
	id := idOf(c.width, data)
	return id, c.layBlob(id, data)
}

func (c shelf) layBlob(id api.ID, data string) said {
	held, code := c.get(id)
	switch {
	case code == api.OK && held == data:
		return said{}
	case code == api.OK:
		return said{api.ErrCollision, id}
	case code == api.ErrNoBlob && len(c.blobFiles()) >= 128:
		return said{code: api.ErrBlobs}
	}
	return said{code: c.lay(blobName(c.name, id), []byte(data))}
}

// set is P10.8.
func (c shelf) set(r api.Result) said {
	if r.Code < 0 || r.Code > 255 {
		return said{code: api.ErrArg}
	}
	if c.isOpen() {
		return said{code: api.ErrOpen}
	}
	held, is := c.table()
	if !is {
		return said{code: api.ErrCache}
	}
	if _, refused := needByWords(c.get, []api.Result{r}); refused.code != api.OK {
		return refused
	}
	changed, refused := unionByWords(held, []api.Result{r}, api.Take)
	if refused.code != api.OK || slices.Equal(changed, held) {
		return refused
	}
	return said{code: c.lay(c.tableFile(), []byte(tableForm(changed)))}
}

// drop is P10.9.
func (c shelf) drop(id api.ID) said {
	if c.isOpen() {
		return said{code: api.ErrOpen}
	}
	if _, is := c.blobFiles()[id]; !is {
		return said{api.ErrNoBlob, id}
	}
	return said{code: c.remove(blobName(c.name, id))}
}

// export is P14.1 and P14.2.
func (c shelf) export(s api.Step) said {
	if s.Size < 16 || s.Size > 4096 {
		return said{code: api.ErrArg}
	}
	held, is := c.table()
	if !is {
		return said{code: api.ErrCache}
	}
	results, refused := pickByWords(held, s.Actions)
	if refused.code != api.OK {
		return refused
	}
	need, refused := needByWords(c.get, results)
	if refused.code != api.OK {
		return refused
	}
	if len(need) > 64 {
		return said{code: api.ErrMany}
	}
	var blobs [][]byte
	sum := 0
	for _, id := range need {
		data, _ := c.get(id)
		blobs = append(blobs, []byte(data))
		sum += len(data)
	}
	if sum > 65536 {
		return said{code: api.ErrBundleLong}
	}
	made, err := bundle.Make(c.width, results, blobs, s.Size)
	if err != nil {
		return saidOf(err)
	}
	return said{code: c.lay("f."+s.File, made)}
}

// pickByWords are the results of these actions, each once.
func pickByWords(results []api.Result, actions []api.ID) ([]api.Result, said) {
	for _, action := range rising(actions...) {
		if !slices.ContainsFunc(results, func(r api.Result) bool { return r.Action == action }) {
			return nil, said{api.ErrNoAction, action}
		}
	}
	return slices.DeleteFunc(slices.Clone(results), func(r api.Result) bool { return !slices.Contains(actions, r.Action) }), said{}
}

// beginning is what an import and a restore ask ahead of the bundle.
func (c shelf) beginning(policy int) api.Errno {
	switch {
	case policy < 1 || policy > 3:
		return api.ErrArg
	case c.isOpen():
		return api.ErrOpen
	}
	return api.OK
}

// importing is P16.3.
func (c shelf) importing(name string, policy int) said {
	if errno := c.beginning(policy); errno != api.OK {
		return said{code: errno}
	}
	data, is := c.file(name)
	if !is {
		return said{code: api.ErrNone}
	}
	face, err := bundle.Verify([]byte(data), c.width)
	if err != nil {
		return saidOf(err)
	}
	var need []api.ID
	for _, place := range face.Blobs {
		need = append(need, place.ID)
	}
	return c.take(packed{c.words, name, face}, face.Results, need, policy)
}

// restore is P17.2.
func (c shelf) restore(name string, actions []api.ID, policy int) said {
	if errno := c.beginning(policy); errno != api.OK {
		return said{code: errno}
	}
	data, is := c.file(name)
	if !is {
		return said{code: api.ErrNone}
	}
	face, err := bundle.Parse([]byte(data), c.width)
	if err != nil {
		return saidOf(err)
	}
	picked, refused := pickByWords(face.Results, actions)
	if refused.code != api.OK {
		return refused
	}
	from := packed{c.words, name, face}
	need, refused := needByWords(from.get, picked)
	if refused.code != api.OK {
		return refused
	}
	return c.take(from, picked, need, policy)
}

// packed is a bundle in a file.
type packed struct {
	words
	name string
	face api.Face
}

// get reads a blob where the face says, out of the file as it is now.
func (p packed) get(id api.ID) (string, api.Errno) {
	data, _ := p.file(p.name)
	return carton{p.width, data, p.face}.get(id)
}

// carton is a bundle's bytes, and what it says it holds.
type carton struct {
	width int
	data  string
	face  api.Face
}

func (c carton) get(id api.ID) (string, api.Errno) {
	at := slices.IndexFunc(c.face.Blobs, func(place api.Place) bool { return place.ID == id })
	if at < 0 {
		return "", api.ErrNoBlob
	}
	blob, code := blobIn(c.data, c.face, c.face.Blobs[at])
	if code == api.OK && idOf(c.width, blob) != id {
		return "", api.ErrDigest
	}
	return blob, code
}

// blobIn is the bytes of a bundle's blob, whatever its id is.
func blobIn(data string, face api.Face, place api.Place) (string, api.Errno) {
	var blob []byte
	for _, k := range covering(face, place) {
		b := face.Blocks[k]
		if b.At+b.Packed > len(data) {
			return "", api.ErrBeyond // it is another file by now
		}
		raw, errno := block.Open([]byte(data[b.At:b.At+b.Packed]), b)
		if errno != api.OK {
			return "", api.ErrBlock
		}
		from, to := max(place.At-k*face.Size, 0), min(place.At+place.N-k*face.Size, b.Raw)
		blob = append(blob, raw[from:to]...)
	}
	return string(blob), api.OK
}

// covering are the numbers of the blocks that have a byte of a blob.
func covering(face api.Face, place api.Place) []int {
	var list []int
	for k, b := range face.Blocks {
		if max(place.At, k*face.Size) < min(place.At+place.N, k*face.Size+b.Raw) {
			list = append(list, k)
		}
	}
	return list
}

// take is P15.1, and P16.3 from its 4 on.
func (c shelf) take(from packed, results []api.Result, need []api.ID, policy int) said {
	union, refused := c.compare(from, results, need, policy)
	if refused.code != api.OK {
		return refused
	}
	j := api.Journal{Bundle: from.name, Entries: from.face.Entries, Index: from.face.Index, Results: results, Need: need, Table: union}
	if errno := c.lay(c.importFile(), []byte(journalForm(j))); errno != api.OK {
		return said{code: errno}
	}
	return c.carryOn(j)
}

// compare is P15.1, of blobs that were read: the table that would be, or why there
// is none.
func (c shelf) compare(from packed, results []api.Result, need []api.ID, policy int) ([]api.Result, said) {
	held, is := c.table()
	if !is {
		return nil, said{code: api.ErrCache}
	}
	files := c.blobFiles()
	before := len(files)
	for _, id := range need {
		theirs, _ := from.get(id)
		if ours, code := c.get(id); code == api.OK && ours != theirs {
			return nil, said{api.ErrCollision, id}
		}
		files[id] = ""
	}
	union, refused := unionByWords(held, results, policy)
	if refused.code != api.OK {
		return nil, refused
	}
	if len(files) > before && len(files) > 128 {
		return nil, said{code: api.ErrBlobs}
	}
	return union, said{}
}

func unionByWords(ours, theirs []api.Result, policy int) ([]api.Result, said) {
	union, conflicts := map[api.ID]api.Result{}, map[api.ID]int{}
	for _, r := range ours {
		union[r.Action] = r
	}
	for _, r := range theirs {
		other, both := union[r.Action]
		if both && other != r {
			conflicts[r.Action]++
		}
		if !both || policy == api.Take {
			union[r.Action] = r
		}
	}
	if len(conflicts) > 0 && policy == api.Fail {
		return nil, said{api.ErrConflict, keysOf(conflicts)[0]}
	}
	if len(union) > 32 {
		return nil, said{code: api.ErrActions}
	}
	return sorted(union), said{}
}

// sorted is a table of results by their actions.
func sorted(results map[api.ID]api.Result) []api.Result {
	var list []api.Result
	for _, action := range keysOf(results) {
		list = append(list, results[action])
	}
	return list
}

// resume is P16.5.
func (c shelf) resume() said {
	data, is := c.file(c.importFile())
	if !is {
		return said{code: api.ErrNoImport}
	}
	j, is := journalIn(data)
	if !is {
		return said{code: api.ErrJournal}
	}
	return c.carryOn(j)
}

// carryOn is P16.5 from its 3 on.
func (c shelf) carryOn(j api.Journal) said {
	data, _ := c.file(j.Bundle)
	face, err := bundle.Parse([]byte(data), c.width)
	if err != nil || face.Entries != j.Entries || face.Index != j.Index {
		return said{code: api.ErrOther}
	}
	from := packed{c.words, j.Bundle, face}
	for _, id := range j.Need {
		blob, code := from.get(id)
		if code != api.OK {
			return said{api.ErrOther, id}
		}
		switch refused := c.layBlob(id, blob); refused.code {
		case api.OK:
		case api.ErrOff:
			return said{code: api.ErrOff}
		case api.ErrCollision:
			return said{api.ErrOther, id}
		default:
			return said{refused.code, id}
		}
	}
	if _, refused := needByWords(c.get, j.Results); refused.code != api.OK {
		return said{api.ErrOther, refused.id}
	}
	if held, is := c.table(); !is || !slices.Equal(held, j.Table) {
		if errno := c.lay(c.tableFile(), []byte(tableForm(j.Table))); errno != api.OK {
			return said{code: errno}
		}
	}
	return said{code: c.remove(c.importFile())}
}

// abandon is P16.6.
func (c shelf) abandon() said {
	if !c.isOpen() {
		return said{code: api.ErrNoImport}
	}
	return said{code: c.remove(c.importFile())}
}

// source tells the bytes of an id, or why not.
type source func(api.ID) (string, api.Errno)

// getOf is a map as a source.
func getOf(blobs map[api.ID]string) source {
	return func(id api.ID) (string, api.Errno) {
		if data, is := blobs[id]; is {
			return data, api.OK
		}
		return "", api.ErrNoBlob
	}
}

// needByWords is the need of results (chapter 9), by rising ids, or why it is not
// whole.
func needByWords(get source, results []api.Result) ([]api.ID, said) {
	f := following{get: get, answers: map[api.ID]string{}, asked: map[api.ID]int{}, lacking: map[api.ID]int{}}
	need, round, noTrees := map[api.ID]int{}, map[api.ID]int{}, map[api.ID]int{}
	for _, r := range results {
		need[r.Root]++
		round[r.Root]++
	}
	for range 6 {
		if refused := f.ask(round); refused.code != api.OK {
			return nil, refused
		}
		next := map[api.ID]int{}
		for id := range round {
			data, is := f.answers[id]
			entries, errno := tree.Parse([]byte(data))
			if is && errno != api.OK {
				noTrees[id]++
			}
			for _, e := range entries {
				need[e.ID]++
				if e.Kind == api.KindFolder {
					next[e.ID]++
				}
			}
		}
		round = next
	}
	switch refused := f.ask(need); {
	case refused.code != api.OK:
		return nil, refused
	case len(noTrees) > 0:
		return nil, said{api.ErrNoTree, keysOf(noTrees)[0]}
	case len(round) > 0:
		return nil, said{api.ErrDeep, keysOf(round)[0]}
	case len(f.lacking) > 0:
		return nil, said{api.ErrMissing, keysOf(f.lacking)[0]}
	}
	return keysOf(need), said{}
}

// following is what a source has told.
type following struct {
	get            source
	answers        map[api.ID]string
	asked, lacking map[api.ID]int
}

// ask asks for each id once, by rising ids, till the source cannot look.
func (f following) ask(ids map[api.ID]int) said {
	for _, id := range keysOf(ids) {
		if f.asked[id]++; f.asked[id] > 1 {
			continue
		}
		data, code := f.get(id)
		switch code {
		case api.OK:
			f.answers[id] = data
		case api.ErrNoBlob, api.ErrDamage:
			f.lacking[id]++
		default:
			return said{code, id}
		}
	}
	return said{}
}

// number is the shortest form, by another hand.
func number(n int) string { return string(binary.AppendUvarint(nil, uint64(n))) }

func text(data string) string { return number(len(data)) + data }

func fixed(n int) string { return string(binary.BigEndian.AppendUint32(nil, uint32(n))) }

// tableForm is the form of a table.
func tableForm(results []api.Result) string {
	form := number(len(results))
	for _, r := range results {
		form += string(r.Action[:]) + string(r.Root[:]) + string([]byte{byte(r.Code)})
	}
	return form
}

// journalForm is the form of a journal.
func journalForm(j api.Journal) string {
	body := "J" + text(j.Bundle) + fixed(j.Entries) + fixed(j.Index) + text(tableForm(j.Results)) + number(len(j.Need))
	for _, id := range j.Need {
		body += string(id[:])
	}
	body += text(tableForm(j.Table))
	return body + fixed(int(crc32.ChecksumIEEE([]byte(body))))
}

// cutting takes pieces off a row of bytes.
type cutting struct{ left string }

func (c *cutting) take(n int) string {
	n = min(n, len(c.left))
	taken := c.left[:n]
	c.left = c.left[n:]
	return taken
}

func (c *cutting) number() int {
	n, size := binary.Uvarint([]byte(c.left))
	c.take(max(size, 0))
	return int(min(n, 1<<20))
}

func (c *cutting) fixed() int {
	return int(binary.BigEndian.Uint32([]byte((c.take(4) + "\x00\x00\x00\x00")[:4])))
}

func (c *cutting) table() []api.Result {
	results, _ := table.Parse([]byte(c.take(c.number())))
	return results
}

// journalIn is the journal whose form that is; false, if it is that of none. (What
// is read of anything else is not written so.)
func journalIn(data string) (api.Journal, bool) {
	var j api.Journal
	c := &cutting{data}
	c.take(1)
	j.Bundle = c.take(c.number())
	j.Entries, j.Index = c.fixed(), c.fixed()
	j.Results = c.table()
	for range min(c.number(), 65) {
		j.Need = append(j.Need, api.ID([]byte((c.take(32) + times(32, "\x00"))[:32])))
	}
	j.Table = c.table()
	isJournal := regexp.MustCompile(`^[a-z0-9.\-_+]{1,112}$`).MatchString(j.Bundle) && len(j.Need) < 65 && slices.Equal(rising(j.Need...), j.Need)
	return j, isJournal && journalForm(j) == data
}
