package intake_test

import (
	"bytes"
	"crypto/sha256"
	"encoding/binary"
	"encoding/hex"
	"errors"
	"fmt"
	"hash/crc32"
	"maps"
	"math/rand/v2"
	"slices"
	"strings"
	"testing"

	"freight/api"
	"freight/bundle"
	"freight/cache"
	"freight/disk"
	"freight/intake"
	"freight/reader"
	"freight/tree"
)

// noise is the same row of numbers in every run.
func noise() *rand.Rand { return rand.New(rand.NewPCG(16, 61)) }

func times(n int, text string) string { return strings.Repeat(text, n) }

// idOf is an id by another hand.
func idOf(width int, data string) api.ID {
	full := sha256.Sum256([]byte(data))
	clear(full[width:])
	return full
}

func idsOf(width int, blobs ...string) []api.ID {
	var ids []api.ID
	for _, b := range blobs {
		ids = append(ids, idOf(width, b))
	}
	return ids
}

// rising are ids in their order, each once.
func rising(ids ...api.ID) []api.ID {
	sorted := slices.Clone(ids)
	slices.SortFunc(sorted, func(a, b api.ID) int { return bytes.Compare(a[:], b[:]) })
	return slices.Compact(sorted)
}

// clash is another row of bytes of a blob's id, in a narrow width.
func clash(width int, blob string) string {
	for i := 0; ; i++ {
		if other := fmt.Sprint("clash ", i); other != blob && idOf(width, other) == idOf(width, blob) {
			return other
		}
	}
}

// strangers are n blobs whose ids are unlike, and unlike those of the others too.
func strangers(width, n int, others ...string) []string {
	seen := map[api.ID]int{}
	for _, b := range others {
		seen[idOf(width, b)]++
	}
	var list []string
	for i := 0; len(list) < n; i++ {
		blob := fmt.Sprint("stranger ", i)
		if seen[idOf(width, blob)]++; seen[idOf(width, blob)] == 1 {
			list = append(list, blob)
		}
	}
	return list
}

// act is the action whose first byte that is.
func act(first byte) api.ID { return api.ID{first} }

func res(action byte, root api.ID, code int) api.Result {
	return api.Result{Action: act(action), Root: root, Code: code}
}

// resultsFrom are n results of rising actions, the first of them with that byte.
func resultsFrom(first byte, n int, root api.ID) []api.Result {
	var list []api.Result
	for i := range n {
		list = append(list, res(first+byte(i), root, i))
	}
	return list
}

func policies() []int { return []int{api.Keep, api.Take, api.Fail} }

// Entries of trees that treeOf gives their names.
func aFile(id api.ID) api.Entry   { return api.Entry{Kind: api.KindFile, ID: id} }
func aRun(id api.ID) api.Entry    { return api.Entry{Kind: api.KindRun, ID: id} }
func aFolder(id api.ID) api.Entry { return api.Entry{Kind: api.KindFolder, ID: id} }

func treeOf(entries ...api.Entry) string {
	for i := range entries {
		entries[i].Name = fmt.Sprintf("%02d", i)
	}
	data, errno := tree.Encode(entries)
	if errno != api.OK {
		panic(fmt.Sprintf("no tree of %d entries: %d", len(entries), errno))
	}
	return string(data)
}

// filesTree is a tree of these files.
func filesTree(width int, blobs ...string) string {
	var entries []api.Entry
	for _, b := range blobs {
		entries = append(entries, aFile(idOf(width, b)))
	}
	return treeOf(entries...)
}

// goods are what a bundle holds.
type goods struct {
	width   int
	blobs   []string
	results []api.Result
}

const (
	crate  = "crate 7 of 31, bay 2"
	pallet = "pallet pallet pallet pallet pallet pallet pallet pallet"
)

// stock is four results: the first needs all blobs but the tree of the third, the
// second a part of them; the last has the first one's root.
func stock(width int) goods {
	inner := treeOf(aFile(idOf(width, "")), aRun(idOf(width, pallet)))
	outer := treeOf(aFile(idOf(width, crate)), aFolder(idOf(width, inner)))
	other := treeOf(aRun(idOf(width, crate)), aFile(idOf(width, crate)))
	return goods{width, []string{crate, pallet, "", inner, outer, other}, []api.Result{
		res(11, idOf(width, outer), 7),
		res(12, idOf(width, inner), 255),
		res(13, idOf(width, other), 0),
		res(14, idOf(width, outer), 0),
	}}
}

func (g goods) id(blob string) api.ID { return idOf(g.width, blob) }

// ids are those of all blobs, rising.
func (g goods) ids() []api.ID { return rising(idsOf(g.width, g.blobs...)...) }

// inOrder are the blobs by rising ids.
func (g goods) inOrder() []string {
	var list []string
	m := g.byID()
	for _, id := range g.ids() {
		list = append(list, m[id])
	}
	return list
}

func (g goods) byID() map[api.ID]string {
	m := map[api.ID]string{}
	for _, b := range g.blobs {
		m[g.id(b)] = b
	}
	return m
}

// needOf is the need of some of the results.
func (g goods) needOf(results ...api.Result) []api.ID {
	need, refused := needByWords(g.byID(), results)
	if refused.code != api.OK {
		panic(fmt.Sprint("no need: ", refused))
	}
	return rising(slices.Collect(maps.Keys(need))...)
}

// bundle is that of the goods, whether it is good or not.
func (g goods) bundle(size int) string {
	var blobs [][]byte
	for _, b := range g.blobs {
		blobs = append(blobs, []byte(b))
	}
	data, err := bundle.Make(g.width, g.results, blobs, size)
	if err != nil {
		panic(err)
	}
	return string(data)
}

// journal is that of an import of the goods' bundle in f.x, behind which there
// would be that table.
func (g goods) journal(size int, table ...api.Result) api.Journal {
	face := faceOf(g.bundle(size), g.width)
	return api.Journal{Bundle: "f.x", Entries: face.Entries, Index: face.Index, Results: slices.Clone(g.results), Need: g.ids(), Table: slices.Clone(table)}
}

func faceOf(data string, width int) api.Face {
	face, err := bundle.Parse([]byte(data), width)
	if err != nil {
		panic(err)
	}
	return face
}

// sealed is a bundle whose ENTRIES and INDEX were written over, and have their
// sums all the same.
func sealed(data string, turn func(entries, index []byte)) string {
	whole := []byte(data)
	trailer := whole[len(whole)-31:]
	number := func(k int) int { return int(binary.BigEndian.Uint32(trailer[4*k:])) }
	entries, index := whole[number(0):number(0)+number(1)], whole[number(3):number(3)+number(4)]
	turn(entries, index)
	binary.BigEndian.PutUint32(trailer[8:], crc32.ChecksumIEEE(entries))
	binary.BigEndian.PutUint32(trailer[20:], crc32.ChecksumIEEE(index))
	return string(whole)
}

// withID is a bundle that says another id of its k-th blob: the last byte of the
// width is another.
func withID(data string, width, k int) string {
	face := faceOf(data, width)
	at := 2 + 65*len(face.Results) + 2 + k*(width+2) + width - 1
	return sealed(data, func(entries, index []byte) { entries[at] ^= 1 })
}

// turned is a row of bytes of which one is another.
func turned(data string, at int) string {
	row := []byte(data)
	row[at] ^= 1
	return string(row)
}

// blobName is the name of a blob's file in a cache.
func blobName(name string, id api.ID) string {
	return "c." + name + ".b." + hex.EncodeToString(id[:])
}

func of(name, data string) api.FileBytes { return api.FileBytes{Name: name, Data: []byte(data)} }

// blobFiles are the files of blobs of the cache a.
func blobFiles(width int, blobs ...string) []api.FileBytes {
	var files []api.FileBytes
	for _, b := range blobs {
		files = append(files, of(blobName("a", idOf(width, b)), b))
	}
	return files
}

// store is a cache on a disk.
type store struct {
	disk  *disk.Disk
	cache *cache.Cache
	name  string
	width int
}

func mustLoad(t testing.TB, room int, files ...api.FileBytes) *disk.Disk {
	t.Helper()
	d, errno := disk.Load(room, files)
	if errno != api.OK {
		t.Fatalf("no disk: %d", errno)
	}
	return d
}

// opened is the cache of that name on a disk.
func opened(t testing.TB, d *disk.Disk, name string, width int) *store {
	t.Helper()
	c, err := cache.Open(d, name, width)
	if err != nil {
		t.Fatalf("Open(%q, %d): %v", name, width, err)
	}
	return &store{d, c, name, width}
}

// stored is the cache a of some blobs and results, with other files beside, on a
// disk with room. All of it is safe.
func stored(t testing.TB, width int, blobs []string, results []api.Result, beside ...api.FileBytes) *store {
	t.Helper()
	files := append(blobFiles(width, blobs...), beside...)
	if len(results) > 0 {
		files = append(files, of("c.a.table", tableForm(results)))
	}
	return opened(t, mustLoad(t, api.MaxRoom, files...), "a", width)
}

// shelved is the cache a of some blobs and results, beside the bundle of goods in
// f.x.
func shelved(t testing.TB, g goods, blobs []string, results []api.Result, beside ...api.FileBytes) *store {
	t.Helper()
	return stored(t, g.width, blobs, results, append(beside, of("f.x", g.bundle(64)))...)
}

// twin is the same cache on a twin of its disk, which has no drafts.
func (s *store) twin(t testing.TB) *store {
	t.Helper()
	before := s.disk.Strokes()
	w := opened(t, s.disk.Twin(), s.name, s.width)
	if w.disk.Strokes() != before {
		t.Fatal("it opens with a stroke")
	}
	return w
}

// hand lays a file by hand, safe.
func (s *store) hand(t testing.TB, name, data string) {
	t.Helper()
	s.disk.Remove(name)
	for _, errno := range []api.Errno{s.disk.Create(name), s.disk.Append(name, []byte(data)), s.disk.Sync(name), s.disk.SyncNames()} {
		if errno != api.OK {
			t.Fatalf("by hand: %s: %d", name, errno)
		}
	}
}

// away takes a file away by hand, safe.
func (s *store) away(t testing.TB, name string) {
	t.Helper()
	if s.disk.Remove(name) != api.OK || s.disk.SyncNames() != api.OK {
		t.Fatalf("by hand: %s is not there", name)
	}
}

// journaled is the store, in which an import of that journal is open.
func (s *store) journaled(t testing.TB, j api.Journal) *store {
	t.Helper()
	s.hand(t, "c."+s.name+".import", formByWords(j))
	return s
}

// darken is the power's end.
func darken(t testing.TB, d *disk.Disk) {
	t.Helper()
	d.Plan(api.Plan{Off: 1})
	if d.SyncNames() != api.ErrOff || !d.Off() {
		t.Fatal("its power is on")
	}
}

// reader is an open bundle of the store's disk.
func (s *store) reader(t testing.TB, name string) source {
	t.Helper()
	return readerOn(t, s.disk, name, s.width)
}

func readerOn(t testing.TB, d *disk.Disk, name string, width int) source {
	t.Helper()
	r, err := reader.Open(d, name, width)
	if err != nil {
		t.Fatalf("Open(%q, %d): %v", name, width, err)
	}
	return source{r, d}
}

// shown is a file as the disk shows it.
func shown(d *disk.Disk, name string) (string, bool) {
	for _, f := range d.Files() {
		if f.Name == name {
			return string(f.Data), true
		}
	}
	return "", false
}

// sameFiles tells whether files are alike, byte by byte.
func sameFiles(one, other []api.FileBytes) bool {
	return slices.EqualFunc(one, other, func(a, b api.FileBytes) bool { return a.Name == b.Name && bytes.Equal(a.Data, b.Data) })
}

// without are the files of other names.
func without(files []api.FileBytes, names ...string) []api.FileBytes {
	return slices.DeleteFunc(slices.Clone(files), func(f api.FileBytes) bool { return slices.Contains(names, f.Name) })
}

// undrafted are the files but the drafts of the cache a.
func undrafted(files []api.FileBytes) []api.FileBytes {
	return slices.DeleteFunc(slices.Clone(files), func(f api.FileBytes) bool { return strings.HasPrefix(f.Name, "+c.a.") })
}

// show: files in words.
func show(files []api.FileBytes) string {
	var words []string
	for _, f := range files {
		words = append(words, fmt.Sprintf("%.14s=%.10q/%d", f.Name, f.Data, len(f.Data)))
	}
	return strings.Join(words, " ")
}

// crashes are picks for every part of a short row of changes of names, and of
// bytes at their ends and within them.
func crashes() [][]int {
	var picks [][]int
	for names := range 4 {
		for _, units := range []int{0, 1, 40, -1} {
			picks = append(picks, slices.Concat([]int{names}, slices.Repeat([]int{units}, 24)))
		}
	}
	return append(picks, nil, slices.Repeat([]int{-1}, 24), []int{1, -2, 3, -4, 5}, []int{1 << 40, -1 << 40, 7})
}

// wantSameDisk asks that two disks tell the same of themselves, and leave the
// same behind crashes.
func wantSameDisk(t testing.TB, what string, got, want *disk.Disk) {
	t.Helper()
	if got.Off() != want.Off() || got.Strokes() != want.Strokes() {
		t.Errorf("%s: off %t, %d strokes, want %t and %d", what, got.Off(), got.Strokes(), want.Off(), want.Strokes())
	}
	if !sameFiles(got.Files(), want.Files()) || !sameFiles(got.Safe(), want.Safe()) {
		t.Errorf("%s: %s; safe %s\nwant: %s; safe %s", what, show(got.Files()), show(got.Safe()), show(want.Files()), show(want.Safe()))
	}
	for _, picks := range [][]int{{1, 2, 3, 4, 5}, slices.Concat([]int{2}, slices.Repeat([]int{30}, 24)), slices.Repeat([]int{-1}, 24)} {
		one, other := got.Twin(), want.Twin()
		one.Crash(picks...)
		other.Crash(picks...)
		if !sameFiles(one.Files(), other.Files()) {
			t.Errorf("%s, Crash(%v): %s\nwant: %s", what, picks, show(one.Files()), show(other.Files()))
		}
	}
}

// wantFault asks for the fault of that call, name, id and number; for nil, if it
// is OK.
func wantFault(t testing.TB, what string, err error, op, name string, want api.Errno, id api.ID) {
	t.Helper()
	if want == api.OK {
		if err != nil {
			t.Errorf("%s: %v, want OK", what, err)
		}
		return
	}
	fault, is := err.(*api.Fault)
	if !is || fault == nil {
		t.Errorf("%s: %v (%T), want a fault with %d", what, err, err, want)
		return
	}
	var errno api.Errno
	if fault.Op != op || fault.Name != name || fault.ID != id || api.Code(err) != want || !errors.Is(err, want) || !errors.As(err, &errno) || errno != want {
		t.Errorf("%s: %q %q %x %v, want %q %q %x and %d", what, fault.Op, fault.Name, fault.ID[:3], fault.Err, op, name, id[:3], want)
	}
}

// doing is a call with its arguments, and what the words say of it.
type doing struct {
	op    string
	call  func(s *store) error
	words func(w words) said
}

func importing(file string, policy int) doing {
	return doing{"intake.import",
		func(s *store) error { return intake.Import(s.cache, file, policy) },
		func(w words) said { return w.importing(file, policy) }}
}

func taking(from source, results []api.Result, need []api.ID, policy int) doing {
	return doing{"intake.part",
		func(s *store) error { return intake.Part(s.cache, from.reader, results, need, policy) },
		func(w words) said { return w.part(from, results, need, policy) }}
}

func resuming() doing {
	return doing{"intake.resume", func(s *store) error { return intake.Resume(s.cache) }, words.resume}
}

func abandoning() doing {
	return doing{"intake.abandon", func(s *store) error { return intake.Abandon(s.cache) }, words.abandon}
}

// wantAsTheWordsSay asks a call for what the words say, stroke by stroke; it
// tells what that was.
func (s *store) wantAsTheWordsSay(t testing.TB, what string, d doing) said {
	t.Helper()
	twin := s.disk.Twin()
	want := d.words(words{twin, s.name, s.width})
	wantFault(t, what, d.call(s), d.op, s.name, want.code, want.id)
	wantSameDisk(t, what, s.disk, twin)
	return want
}

// want asks a call for that number and id, and for all else that the words say.
func (s *store) want(t testing.TB, what string, d doing, code api.Errno, id api.ID) {
	t.Helper()
	if got := s.wantAsTheWordsSay(t, what, d); got != (said{code, id}) {
		t.Errorf("%s: the words say %d of %x, want %d of %x", what, got.code, got.id[:3], code, id[:3])
	}
}

// wantRefused asks a call for that error, with nothing changed.
func (s *store) wantRefused(t testing.TB, what string, d doing, code api.Errno, id api.ID) {
	t.Helper()
	before := s.disk.Twin()
	wantFault(t, what, d.call(s), d.op, s.name, code, id)
	wantSameDisk(t, what, s.disk, before)
	s.want(t, what, d, code, id)
}

// wantJournal asks for that journal, with nothing changed.
func (s *store) wantJournal(t testing.TB, what string, want api.Journal) {
	t.Helper()
	before := s.disk.Twin()
	got, err := intake.Journal(s.cache)
	if err != nil || !likeJournal(got, want) {
		t.Errorf("%s: %v, %v, want %v", what, got, err, want)
	}
	wantSameDisk(t, what, s.disk, before)
}

// wantNoJournal asks for that error, with nothing told and nothing changed.
func (s *store) wantNoJournal(t testing.TB, what string, want api.Errno) {
	t.Helper()
	before := s.disk.Twin()
	got, err := intake.Journal(s.cache)
	wantFault(t, what, err, "intake.journal", s.name, want, api.ID{})
	if !isZero(got) {
		t.Errorf("%s: %v beside an error", what, got)
	}
	wantSameDisk(t, what, s.disk, before)
}

// likeJournal holds journals against each other, lists by what stands in them.
func likeJournal(a, b api.Journal) bool {
	return a.Bundle == b.Bundle && a.Entries == b.Entries && a.Index == b.Index &&
		slices.Equal(a.Results, b.Results) && slices.Equal(a.Need, b.Need) && slices.Equal(a.Table, b.Table)
}

func isZero(j api.Journal) bool {
	return j.Bundle == "" && j.Entries == 0 && j.Index == 0 && len(j.Results)+len(j.Need)+len(j.Table) == 0
}

// wantHolds asks a cache for just these blobs, and for that table.
func (s *store) wantHolds(t testing.TB, what string, blobs []string, results []api.Result) {
	t.Helper()
	ids, err := s.cache.Blobs()
	if want := rising(idsOf(s.width, blobs...)...); err != nil || !slices.Equal(ids, want) {
		t.Errorf("%s: %d blobs, want %d: %v", what, len(ids), len(want), err)
	}
	for _, b := range blobs {
		if got, err := s.cache.Get(idOf(s.width, b)); err != nil || string(got) != b {
			t.Errorf("%s: %.20q, %v, want %.20q", what, got, err, b)
		}
	}
	if got, err := s.cache.Table(); err != nil || !slices.Equal(got, results) {
		t.Errorf("%s: table %v, %v, want %v", what, got, err, results)
	}
}

// fill writes over a list, and over its room.
func fill[T any](list []T, with T) {
	whole := list[:cap(list)]
	for i := range whole {
		whole[i] = with
	}
}

// spare is a list with room behind its end that is written full.
func spare[T any](list []T, with T) []T {
	whole := append(slices.Clone(list), with, with, with)
	return whole[:len(list):len(whole)]
}

// openReader is an open bundle of that disk, of the scripts' width.
func openReader(d *disk.Disk, name string) (source, error) {
	r, err := reader.Open(d, name, scriptWidth)
	return source{r, d}, err
}
