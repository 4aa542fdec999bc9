package depot_test

import (
	"fmt"
	"maps"
	"slices"
	"testing"

	"freight/api"
	"freight/bundle"
	"freight/delta"
	"freight/depot"
	"freight/disk"
)

// What the promises of the whole say a clean script leaves: maps, changed as the words
// of the steps say. Nothing here has a disk.

// held is what a cache holds: ids to bytes, actions to results.
type held struct {
	blobs   map[api.ID]string
	results map[api.ID]api.Result
	open    *begun // an import that is open
}

// begun is an import or a restore that is open: its file as it was, and what the cache
// held ahead of it, and would hold behind it.
type begun struct {
	file, data  string
	ahead, done held
}

func (h held) clone() held {
	return held{maps.Clone(h.blobs), maps.Clone(h.results), h.open}
}

// isLike tells whether two hold the same, whatever is open there.
func (h held) isLike(other held) bool {
	return maps.Equal(h.blobs, other.blobs) && maps.Equal(h.results, other.results)
}

func (h held) has(id api.ID, data string) bool {
	ours, is := h.blobs[id]
	return is && ours == data
}

// isWhole tells whether the need of its table is whole in it.
func (h held) isWhole() bool {
	_, refused := needByWords(getOf(h.blobs), sorted(h.results))
	return refused.code == api.OK
}

func (h held) String() string {
	return fmt.Sprintf("%d blobs, %d results, open %t", len(h.blobs), len(h.results), h.open != nil)
}

// ledger is caches and files by their titles.
type ledger struct {
	width  int
	caches map[string]held
	files  map[string]string
}

func newLedger(width int) ledger {
	return ledger{width, map[string]held{}, map[string]string{}}
}

func (l ledger) clone() ledger {
	other := newLedger(l.width)
	for title, h := range l.caches {
		other.caches[title] = h.clone()
	}
	maps.Copy(other.files, l.files)
	return other
}

// cache is what a cache holds; one that was never heard of holds nothing.
func (l ledger) cache(title string) held {
	if _, is := l.caches[title]; !is {
		l.caches[title] = held{blobs: map[api.ID]string{}, results: map[api.ID]api.Result{}}
	}
	return l.caches[title]
}

// stow puts goods into a cache of the ledger.
func (l ledger) stow(title string, g goods) {
	h := l.cache(title)
	maps.Copy(h.blobs, g.byID())
	for _, r := range g.results {
		h.results[r.Action] = r
	}
}

// titles are those of the caches that have a file.
func (l ledger) titles() []string {
	var titles []string
	for title, h := range l.caches {
		if len(h.blobs)+len(h.results) > 0 || h.open != nil {
			titles = append(titles, title)
		}
	}
	slices.Sort(titles)
	return titles
}

// do is what a step of a clean script says and leaves, where the power stays on and
// there is room.
func (l ledger) do(s api.Step) api.Answer {
	if refused := (words{litDisk(), l.width}).ahead(s); refused != api.OK {
		return api.Answer{Code: refused}
	}
	switch s.Kind {
	case api.StepPut:
		return l.put(l.cache(s.Cache), string(s.Data))
	case api.StepSet:
		return l.set(l.cache(s.Cache), s.Result).answer()
	case api.StepDrop:
		return l.drop(l.cache(s.Cache), s.ID).answer()
	case api.StepGet:
		data, is := l.cache(s.Cache).blobs[s.ID]
		if !is {
			return said{api.ErrNoBlob, s.ID}.answer()
		}
		return api.Answer{Data: []byte(data)}
	case api.StepCache:
		h := l.cache(s.Cache)
		return api.Answer{IDs: keysOf(h.blobs), Results: sorted(h.results)}
	case api.StepExport:
		return l.export(l.cache(s.Cache), s).answer()
	case api.StepImport:
		return l.takeIn(s).answer()
	case api.StepRestore:
		return l.restore(s).answer()
	case api.StepResume, api.StepAbandon:
		return l.end(s).answer()
	}
	return l.doFiles(s)
}

func (l ledger) put(h held, data string) api.Answer {
	id := idOf(l.width, data)
	before, is := h.blobs[id]
	switch {
	case len(data) > api.MaxBlob:
		return api.Answer{Code: api.ErrLong}
	case h.open != nil:
		return api.Answer{Code: api.ErrOpen}
	case is && before != data:
		return said{api.ErrCollision, id}.answer()
	case !is && len(h.blobs) >= api.MaxBlobs:
		return api.Answer{Code: api.ErrBlobs}
	}
	h.blobs[id] = data
	return api.Answer{ID: id}
}

func (l ledger) set(h held, r api.Result) said {
	switch {
	case r.Code < 0 || r.Code > 255:
		return said{code: api.ErrArg}
	case h.open != nil:
		return said{code: api.ErrOpen}
	}
	if _, refused := needByWords(getOf(h.blobs), []api.Result{r}); refused.code != api.OK {
		return refused
	}
	if _, is := h.results[r.Action]; !is && len(h.results) >= api.MaxActions {
		return said{code: api.ErrActions}
	}
	h.results[r.Action] = r
	return said{}
}

func (l ledger) drop(h held, id api.ID) said {
	if h.open != nil {
		return said{code: api.ErrOpen}
	}
	if _, is := h.blobs[id]; !is {
		return said{api.ErrNoBlob, id}
	}
	delete(h.blobs, id)
	return said{}
}

// export is goods of just these results and their need.
func (l ledger) export(h held, s api.Step) said {
	if s.Size < api.MinBlock || s.Size > api.MaxBlock {
		return said{code: api.ErrArg}
	}
	results, refused := pickByWords(sorted(h.results), s.Actions)
	if refused.code != api.OK {
		return refused
	}
	need, refused := needByWords(getOf(h.blobs), results)
	if refused.code != api.OK {
		return refused
	}
	g := goods{width: l.width, results: results}
	sum := 0
	for _, id := range need {
		g.blobs = append(g.blobs, h.blobs[id])
		sum += len(h.blobs[id])
	}
	switch {
	case len(need) > api.MaxBundle:
		return said{code: api.ErrMany}
	case sum > api.MaxRow:
		return said{code: api.ErrBundleLong}
	}
	l.files[s.File] = g.bundle(s.Size)
	return said{}
}

// begin is what an import and a restore ask ahead of all.
func (l ledger) begin(s api.Step) said {
	_, is := l.files[s.File]
	switch {
	case s.Policy < 1 || s.Policy > 3:
		return said{code: api.ErrArg}
	case l.cache(s.Cache).open != nil:
		return said{code: api.ErrOpen}
	case !is:
		return said{code: api.ErrNone}
	}
	return said{}
}

func (l ledger) takeIn(s api.Step) said {
	if refused := l.begin(s); refused.code != api.OK {
		return refused
	}
	data := l.files[s.File]
	face, err := bundle.Verify([]byte(data), l.width)
	if err != nil {
		return saidOf(err)
	}
	var need []api.ID
	for _, place := range face.Blobs {
		need = append(need, place.ID)
	}
	return l.take(l.cache(s.Cache), carton{l.width, data, face}, face.Results, need, s.Policy)
}

func (l ledger) restore(s api.Step) said {
	if refused := l.begin(s); refused.code != api.OK {
		return refused
	}
	data := l.files[s.File]
	face, err := bundle.Parse([]byte(data), l.width)
	if err != nil {
		return saidOf(err)
	}
	picked, refused := pickByWords(face.Results, s.Actions)
	if refused.code != api.OK {
		return refused
	}
	from := carton{l.width, data, face}
	need, refused := needByWords(from.get, picked)
	if refused.code != api.OK {
		return refused
	}
	return l.take(l.cache(s.Cache), from, picked, need, s.Policy)
}

// take is the union by the policy.
func (l ledger) take(h held, from carton, results []api.Result, need []api.ID, policy int) said {
	blobs := maps.Clone(h.blobs)
	for _, id := range need {
		data, _ := from.get(id)
		if ours, is := blobs[id]; is && ours != data {
			return said{api.ErrCollision, id}
		}
		blobs[id] = data
	}
	union, refused := unionByWords(sorted(h.results), results, policy)
	if refused.code != api.OK {
		return refused
	}
	if len(blobs) > len(h.blobs) && len(blobs) > api.MaxBlobs {
		return said{code: api.ErrBlobs}
	}
	maps.Copy(h.blobs, blobs)
	for _, r := range union {
		h.results[r.Action] = r
	}
	return said{}
}

// end is a resume or an abandon; of a resume only where the bundle is as it was.
func (l ledger) end(s api.Step) said {
	h := l.cache(s.Cache)
	if h.open == nil {
		return said{code: api.ErrNoImport}
	}
	if s.Kind == api.StepResume {
		h = h.open.done.clone()
	}
	h.open = nil
	l.caches[s.Cache] = h
	return said{}
}

// doFiles are the kinds without a cache.
func (l ledger) doFiles(s api.Step) api.Answer {
	data, is := l.files[s.File]
	with, both := l.files[s.With]
	if s.Kind == api.StepWrite {
		l.files[s.File] = string(s.Data)
		return api.Answer{}
	}
	if !is {
		return api.Answer{Code: api.ErrNone}
	}
	var made []byte
	var errno api.Errno
	switch s.Kind {
	case api.StepRead:
		return api.Answer{Data: []byte(data)}
	case api.StepErase:
		delete(l.files, s.File)
		return api.Answer{}
	case api.StepVerify, api.StepList:
		return l.tell(s.Kind, data)
	case api.StepSign:
		signature, refused := delta.Sign(l.width, []byte(data), s.Size)
		made, _ = delta.Encode(signature)
		errno = refused
	case api.StepDelta:
		signature, refused := delta.Decode([]byte(data))
		if refused != api.OK {
			return api.Answer{Code: refused}
		}
		if !both {
			return api.Answer{Code: api.ErrNone}
		}
		made, errno = delta.Make(signature, []byte(with))
	case api.StepApply:
		if !both {
			return api.Answer{Code: api.ErrNone}
		}
		made, errno = delta.Apply([]byte(data), []byte(with))
	}
	if errno == api.OK {
		l.files[s.To] = string(made)
	}
	return api.Answer{Code: errno}
}

func (l ledger) tell(kind int, data string) api.Answer {
	look := bundle.Parse
	if kind == api.StepVerify {
		look = bundle.Verify
	}
	face, err := look([]byte(data), l.width)
	if err != nil {
		return saidOf(err).answer()
	}
	return api.Answer{Results: face.Results, Blobs: face.Blobs}
}

// load is a depot that holds what the ledger says, all of it safe.
func (l ledger) load(t testing.TB, room int) *depot.Depot {
	t.Helper()
	var files []api.FileBytes
	for title, h := range l.caches {
		for id, data := range h.blobs {
			files = append(files, of(blobName(title, id), data))
		}
		if len(h.results) > 0 {
			files = append(files, of("c."+title+".table", tableForm(sorted(h.results))))
		}
	}
	for title, data := range l.files {
		files = append(files, of("f."+title, data))
	}
	return load(t, l.width, room, files...)
}

// heldBy is what a cache holds, as its steps tell it. In a clean script each id that
// is listed has its bytes.
func heldBy(t testing.TB, what string, d *depot.Depot, title string, width int) held {
	t.Helper()
	h := held{blobs: map[api.ID]string{}, results: map[api.ID]api.Result{}}
	a := d.Do(telling(title))
	if a.Code != api.OK {
		t.Fatalf("%s: cache %s: %s", what, title, brief(a))
	}
	for _, id := range a.IDs {
		got := d.Do(get(title, id))
		if got.Code != api.OK || idOf(width, string(got.Data)) != id {
			t.Fatalf("%s: get %s: %s", what, title, brief(got))
		}
		h.blobs[id] = string(got.Data)
	}
	for _, r := range a.Results {
		h.results[r.Action] = r
	}
	return h
}

// isOpen tells whether an import's file lies in a cache.
func isOpen(d *depot.Depot, title string) bool {
	_, is := shown(d.Disk(), "c."+title+".import")
	return is
}

// wantLedger asks a depot for just what the ledger says, of all caches and files.
func wantLedger(t testing.TB, what string, d *depot.Depot, l ledger) {
	t.Helper()
	if titles := d.Caches(); !slices.Equal(titles, l.titles()) {
		t.Fatalf("%s: caches %q, want %q", what, titles, l.titles())
	}
	for title, h := range l.caches {
		if got := heldBy(t, what, d, title, l.width); !got.isLike(h) || isOpen(d, title) != (h.open != nil) {
			t.Fatalf("%s: cache %s: %v, want %v", what, title, got, h)
		}
	}
	files := map[string]string{}
	for _, name := range d.Disk().List("f.") {
		files[name[2:]] = string(d.Do(read(name[2:])).Data)
	}
	if !maps.Equal(files, l.files) {
		t.Fatalf("%s: files %d, want %d", what, len(files), len(l.files))
	}
	if all := len(d.Disk().List("")); all != len(d.Disk().List("c."))+len(files) {
		t.Fatalf("%s: %q", what, d.Disk().List(""))
	}
}

// litDisk is any disk whose power is on.
func litDisk() *disk.Disk {
	d, _ := disk.New(1)
	return d
}
