package restore_test

import (
	"bytes"
	"crypto/sha256"
	"encoding/binary"
	"encoding/hex"
	"errors"
	"fmt"
	"hash/crc32"
	"math/rand/v2"
	"slices"
	"strings"
	"testing"

	"freight/api"
	"freight/bundle"
	"freight/cache"
	"freight/disk"
	"freight/intake"
	"freight/restore"
	"freight/tree"
)

// noise is the same row of numbers in every run.
func noise() *rand.Rand { return rand.New(rand.NewPCG(17, 71)) }

func times(n int, text string) string { return strings.Repeat(text, n) }

// idOf is an id by another hand.
func idOf(width int, data string) api.ID {
	full := sha256.Sum256([]byte(data))
	clear(full[width:])
	return full
}

func idsOf(width int, blobs ...string) []api.ID {
	var ids []api.ID
	for _, b := range blobs {
		ids = append(ids, idOf(width, b))
	}
	return ids
}

// rising are ids in their order, each once.
func rising(ids ...api.ID) []api.ID {
	sorted := slices.Clone(ids)
	slices.SortFunc(sorted, func(a, b api.ID) int { return bytes.Compare(a[:], b[:]) })
	return slices.Compact(sorted)
}

// clash is another row of bytes of a blob's id, in a narrow width.
func clash(width int, blob string) string {
	for i := 0; ; i++ {
		if other := fmt.Sprint("clash ", i); other != blob && idOf(width, other) == idOf(width, blob) {
			return other
		}
	}
}

// strangers are n blobs whose ids are unlike, and unlike those of the others too.
func strangers(width, n int, others ...string) []string {
	seen := map[api.ID]int{}
	for _, b := range others {
		seen[idOf(width, b)]++
	}
	var list []string
	for i := 0; len(list) < n; i++ {
		blob := fmt.Sprint("stranger ", i)
		if seen[idOf(width, blob)]++; seen[idOf(width, blob)] == 1 {
			list = append(list, blob)
		}
	}
	return list
}

// act is the action whose first byte that is.
func act(first byte) api.ID { return api.ID{first} }

func acts(firsts ...byte) []api.ID {
	var ids []api.ID
	for _, first := range firsts {
		ids = append(ids, act(first))
	}
	return ids
}

// actionsOf are those of some results.
func actionsOf(results ...api.Result) []api.ID {
	var ids []api.ID
	for _, r := range results {
		ids = append(ids, r.Action)
	}
	return ids
}

func res(action byte, root api.ID, code int) api.Result {
	return api.Result{Action: act(action), Root: root, Code: code}
}

// resultsFrom are n results of rising actions, the first of them with that byte.
func resultsFrom(first byte, n int, root api.ID) []api.Result {
	var list []api.Result
	for i := range n {
		list = append(list, res(first+byte(i), root, i))
	}
	return list
}

// some are those of a list whose bits are set.
func some[T any](list []T, set int) []T {
	var chosen []T
	for k, one := range list {
		if set>>k&1 == 1 {
			chosen = append(chosen, one)
		}
	}
	return chosen
}

func policies() []int { return []int{api.Keep, api.Take, api.Fail} }

func noPolicies() []int { return []int{0, 4, -1, 5, 1 << 62, -1 << 63, 257, 1 << 32, 1<<32 + 1} }

// Entries of trees that treeOf gives their names.
func aFile(id api.ID) api.Entry   { return api.Entry{Kind: api.KindFile, ID: id} }
func aRun(id api.ID) api.Entry    { return api.Entry{Kind: api.KindRun, ID: id} }
func aFolder(id api.ID) api.Entry { return api.Entry{Kind: api.KindFolder, ID: id} }

func treeOf(entries ...api.Entry) string {
	for i := range entries {
		entries[i].Name = fmt.Sprintf("%02d", i)
	}
	data, errno := tree.Encode(entries)
	if errno != api.OK {
		panic(fmt.Sprintf("no tree of %d entries: %d", len(entries), errno))
	}
	return string(data)
}

// filesTree is a tree of these files.
func filesTree(width int, blobs ...string) string {
	var entries []api.Entry
	for _, b := range blobs {
		entries = append(entries, aFile(idOf(width, b)))
	}
	return treeOf(entries...)
}

// chain are n trees, each but the first with the one ahead of it as its folder;
// the first has a file.
func chain(width, n int, file string) []string {
	list := []string{filesTree(width, file)}
	for len(list) < n {
		list = append(list, treeOf(aFolder(idOf(width, list[len(list)-1]))))
	}
	return list
}

// goods are what a bundle holds.
type goods struct {
	width   int
	blobs   []string
	results []api.Result
}

const (
	crate  = "crate 7 of 31, bay 2"
	pallet = "pallet pallet pallet pallet pallet pallet pallet pallet"
)

// stock is four results: the first needs all blobs but the tree of the third, the
// second a part of them; the last has the first one's root.
func stock(width int) goods {
	inner := treeOf(aFile(idOf(width, "")), aRun(idOf(width, pallet)))
	outer := treeOf(aFile(idOf(width, crate)), aFolder(idOf(width, inner)))
	other := treeOf(aRun(idOf(width, crate)), aFile(idOf(width, crate)))
	return goods{width, []string{crate, pallet, "", inner, outer, other}, []api.Result{
		res(11, idOf(width, outer), 7),
		res(12, idOf(width, inner), 255),
		res(13, idOf(width, other), 0),
		res(14, idOf(width, outer), 0),
	}}
}

func (g goods) id(blob string) api.ID { return idOf(g.width, blob) }

// ids are those of all blobs, rising.
func (g goods) ids() []api.ID { return rising(idsOf(g.width, g.blobs...)...) }

// inOrder are the blobs by rising ids.
func (g goods) inOrder() []string { return g.blobsOf(g.ids()) }

// blobsOf are the blobs of some ids.
func (g goods) blobsOf(ids []api.ID) []string {
	var list []string
	for _, id := range ids {
		data, code := g.get(id)
		if code != api.OK {
			panic("no such blob")
		}
		list = append(list, data)
	}
	return list
}

func (g goods) get(id api.ID) (string, api.Errno) {
	for _, b := range g.blobs {
		if g.id(b) == id {
			return b, api.OK
		}
	}
	return "", api.ErrNoBlob
}

// needOf is the need of some results.
func (g goods) needOf(results ...api.Result) []api.ID {
	found := follow(g.get, results)
	if found.code != api.OK {
		panic(fmt.Sprint("no need: ", found.said))
	}
	return found.need
}

// part is goods of just these results and their need.
func (g goods) part(results ...api.Result) goods {
	return goods{g.width, g.blobsOf(g.needOf(results...)), results}
}

// bundle is that of the goods, whether it is good or not.
func (g goods) bundle(size int) string {
	var blobs [][]byte
	for _, b := range g.blobs {
		blobs = append(blobs, []byte(b))
	}
	data, err := bundle.Make(g.width, g.results, blobs, size)
	if err != nil {
		panic(err)
	}
	return string(data)
}

// journal is that of a restore of some results out of the goods' bundle in f.x,
// behind which there would be that table.
func (g goods) journal(size int, results []api.Result, table ...api.Result) api.Journal {
	face := faceOf(g.bundle(size), g.width)
	return api.Journal{Bundle: "f.x", Entries: face.Entries, Index: face.Index, Results: slices.Clone(results), Need: g.needOf(results...), Table: slices.Clone(table)}
}

func faceOf(data string, width int) api.Face {
	face, err := bundle.Parse([]byte(data), width)
	if err != nil {
		panic(err)
	}
	return face
}

// ownBlocks are the numbers of the blocks that have bytes of that blob alone.
func ownBlocks(face api.Face, id api.ID) []int {
	at := slices.IndexFunc(face.Blobs, func(p api.Place) bool { return p.ID == id })
	var list []int
	for _, k := range covering(face, face.Blobs[at]) {
		isOwn := true
		for _, p := range face.Blobs {
			isOwn = isOwn && (p.ID == id || !slices.Contains(covering(face, p), k))
		}
		if isOwn {
			list = append(list, k)
		}
	}
	return list
}

// ownByte is the place of a byte in a block that has bytes of that blob alone.
func ownByte(data string, width int, id api.ID) int {
	face := faceOf(data, width)
	own := ownBlocks(face, id)
	if len(own) == 0 {
		panic("no block of its own")
	}
	return face.Blocks[own[len(own)/2]].At
}

// spoilt is a bundle in which such a byte is turned.
func spoilt(data string, width int, id api.ID) string {
	return turned(data, ownByte(data, width, id))
}

// withID is a bundle that says another id of its k-th blob: the last byte of the
// width is another. Its entries have their sum all the same.
func withID(data string, width, k int) string {
	face := faceOf(data, width)
	whole := []byte(data)
	trailer := whole[len(whole)-31:]
	at, n := int(binary.BigEndian.Uint32(trailer)), int(binary.BigEndian.Uint32(trailer[4:]))
	entries := whole[at : at+n]
	entries[2+65*len(face.Results)+2+k*(width+2)+width-1] ^= 1
	binary.BigEndian.PutUint32(trailer[8:], crc32.ChecksumIEEE(entries))
	return string(whole)
}

// turned is a row of bytes of which one is another.
func turned(data string, at int) string {
	row := []byte(data)
	row[at] ^= 1
	return string(row)
}

// blobName is the name of a blob's file in a cache.
func blobName(name string, id api.ID) string {
	return "c." + name + ".b." + hex.EncodeToString(id[:])
}

func of(name, data string) api.FileBytes { return api.FileBytes{Name: name, Data: []byte(data)} }

// manyFiles are n files of no bytes.
func manyFiles(n int) []api.FileBytes {
	var files []api.FileBytes
	for i := range n {
		files = append(files, of(fmt.Sprint("z.", i), ""))
	}
	return files
}

// store is a cache on a disk.
type store struct {
	disk  *disk.Disk
	cache *cache.Cache
	name  string
	width int
}

func mustLoad(t testing.TB, room int, files ...api.FileBytes) *disk.Disk {
	t.Helper()
	d, errno := disk.Load(room, files)
	if errno != api.OK {
		t.Fatalf("no disk: %d", errno)
	}
	return d
}

// opened is the cache of that name on a disk.
func opened(t testing.TB, d *disk.Disk, name string, width int) *store {
	t.Helper()
	c, err := cache.Open(d, name, width)
	if err != nil {
		t.Fatalf("Open(%q, %d): %v", name, width, err)
	}
	return &store{d, c, name, width}
}

// stored is the cache a of some blobs and results, with other files beside, on a
// disk with room. All of it is safe.
func stored(t testing.TB, width int, blobs []string, results []api.Result, beside ...api.FileBytes) *store {
	t.Helper()
	var files []api.FileBytes
	for _, b := range blobs {
		files = append(files, of(blobName("a", idOf(width, b)), b))
	}
	if len(results) > 0 {
		files = append(files, of("c.a.table", tableForm(results)))
	}
	return opened(t, mustLoad(t, api.MaxRoom, append(files, beside...)...), "a", width)
}

// shelved is the cache a of some blobs and results, beside the bundle of goods in
// f.x.
func shelved(t testing.TB, g goods, blobs []string, results []api.Result, beside ...api.FileBytes) *store {
	t.Helper()
	return stored(t, g.width, blobs, results, append(beside, of("f.x", g.bundle(64)))...)
}

// noStores are caches without a disk.
func noStores() []*store {
	return []*store{{}, {cache: &cache.Cache{}}, {cache: new(cache.Cache), disk: &disk.Disk{}}}
}

// hand lays a file by hand, safe.
func (s *store) hand(t testing.TB, name, data string) {
	t.Helper()
	s.disk.Remove(name)
	for _, errno := range []api.Errno{s.disk.Create(name), s.disk.Append(name, []byte(data)), s.disk.Sync(name), s.disk.SyncNames()} {
		if errno != api.OK {
			t.Fatalf("by hand: %s: %d", name, errno)
		}
	}
}

// darken is the power's end.
func darken(t testing.TB, d *disk.Disk) {
	t.Helper()
	d.Plan(api.Plan{Off: 1})
	if d.SyncNames() != api.ErrOff || !d.Off() {
		t.Fatal("its power is on")
	}
}

// shown is a file as the disk shows it.
func shown(d *disk.Disk, name string) (string, bool) {
	for _, f := range d.Files() {
		if f.Name == name {
			return string(f.Data), true
		}
	}
	return "", false
}

// sameFiles tells whether files are alike, byte by byte.
func sameFiles(one, other []api.FileBytes) bool {
	return slices.EqualFunc(one, other, func(a, b api.FileBytes) bool { return a.Name == b.Name && bytes.Equal(a.Data, b.Data) })
}

// without are the files of other names.
func without(files []api.FileBytes, names ...string) []api.FileBytes {
	return slices.DeleteFunc(slices.Clone(files), func(f api.FileBytes) bool { return slices.Contains(names, f.Name) })
}

// show: files in words.
func show(files []api.FileBytes) string {
	var words []string
	for _, f := range files {
		words = append(words, fmt.Sprintf("%.14s=%.10q/%d", f.Name, f.Data, len(f.Data)))
	}
	return strings.Join(words, " ")
}

// wantSameDisk asks that two disks tell the same of themselves, and leave the
// same behind crashes.
func wantSameDisk(t testing.TB, what string, got, want *disk.Disk) {
	t.Helper()
	if got.Off() != want.Off() || got.Strokes() != want.Strokes() {
		t.Errorf("%s: off %t, %d strokes, want %t and %d", what, got.Off(), got.Strokes(), want.Off(), want.Strokes())
	}
	if !sameFiles(got.Files(), want.Files()) || !sameFiles(got.Safe(), want.Safe()) {
		t.Errorf("%s: %s; safe %s\nwant: %s; safe %s", what, show(got.Files()), show(got.Safe()), show(want.Files()), show(want.Safe()))
	}
	for _, picks := range [][]int{{1, 2, 3, 4, 5}, slices.Concat([]int{2}, slices.Repeat([]int{30}, 24)), slices.Repeat([]int{-1}, 24)} {
		one, other := got.Twin(), want.Twin()
		one.Crash(picks...)
		other.Crash(picks...)
		if !sameFiles(one.Files(), other.Files()) {
			t.Errorf("%s, Crash(%v): %s\nwant: %s", what, picks, show(one.Files()), show(other.Files()))
		}
	}
}

// wantFault asks for the fault of that call, name, id and number; for nil, if it
// is OK.
func wantFault(t testing.TB, what string, err error, op, name string, want said) {
	t.Helper()
	if want.code == api.OK {
		if err != nil {
			t.Errorf("%s: %v, want OK", what, err)
		}
		return
	}
	fault, is := err.(*api.Fault)
	if !is || fault == nil {
		t.Errorf("%s: %v (%T), want a fault with %d", what, err, err, want.code)
		return
	}
	var errno api.Errno
	if fault.Op != op || fault.Name != name || fault.ID != want.id || api.Code(err) != want.code || !errors.Is(err, want.code) || !errors.As(err, &errno) || errno != want.code {
		t.Errorf("%s: %q %q %x %v, want %q %q %x and %d", what, fault.Op, fault.Name, fault.ID[:3], fault.Err, op, name, want.id[:3], want.code)
	}
}

// ask is what a restore is asked for.
type ask struct {
	file    string
	actions []api.ID
	policy  int
}

func (a ask) of(s *store) error { return restore.Restore(s.cache, a.file, a.actions, a.policy) }

// wantAsTheWordsSay asks a restore for what the words say, stroke by stroke, and
// for no reading beside theirs; it tells what they say.
func (s *store) wantAsTheWordsSay(t testing.TB, what string, a ask) said {
	t.Helper()
	twin := s.disk.Twin()
	allowed := words{twin, s.name, s.width}.readsOf(a.file, a.actions, a.policy)
	want := words{twin, s.name, s.width}.restore(a.file, a.actions, a.policy)
	s.disk.Look()
	err := a.of(s)
	if !strings.HasPrefix(a.file, "c.") { // a cache's own files are read as such, too
		wantWithin(t, what, s.disk.Reads(), a.file, allowed)
	}
	wantFault(t, what, err, "restore.restore", a.file, want)
	wantSameDisk(t, what, s.disk, twin)
	return want
}

// wantWithin asks that what was read of a file lies in these places.
func wantWithin(t testing.TB, what string, reads []api.Span, name string, allowed []api.Span) {
	t.Helper()
	for _, read := range outside(reads, name, allowed) {
		t.Errorf("%s: %v was read, which is not in %v", what, read, allowed)
	}
}

// outside are those that were read of a file, and have a byte beside these places.
func outside(reads []api.Span, name string, allowed []api.Span) []api.Span {
	return slices.DeleteFunc(slices.Clone(reads), func(read api.Span) bool {
		for at := read.At; read.Name == name && at < read.At+read.N; at++ {
			if !slices.ContainsFunc(allowed, func(s api.Span) bool { return s.At <= at && at < s.At+s.N }) {
				return false
			}
		}
		return true
	})
}

// want asks a restore for that number and id, and for all else that the words say.
func (s *store) want(t testing.TB, what string, a ask, code api.Errno, id api.ID) {
	t.Helper()
	if got := s.wantAsTheWordsSay(t, what, a); got != (said{code, id}) {
		t.Errorf("%s: the words say %d of %x, want %d of %x", what, got.code, got.id[:3], code, id[:3])
	}
}

// wantRefused asks a restore for that error, with nothing changed.
func (s *store) wantRefused(t testing.TB, what string, a ask, code api.Errno, id api.ID) {
	t.Helper()
	before := s.disk.Twin()
	wantFault(t, what, a.of(s), "restore.restore", a.file, said{code, id})
	wantSameDisk(t, what, s.disk, before)
	s.want(t, what, a, code, id)
}

// wantOver asks that no import is open.
func (s *store) wantOver(t testing.TB, what string) {
	t.Helper()
	before := s.disk.Twin()
	if s.cache.Pending() || api.Code(intake.Resume(s.cache)) != api.ErrNoImport || api.Code(intake.Abandon(s.cache)) != api.ErrNoImport {
		t.Errorf("%s: an import is open", what)
	}
	wantSameDisk(t, what, s.disk, before)
}

// wantJournal asks for that journal of an open import.
func (s *store) wantJournal(t testing.TB, what string, want api.Journal) {
	t.Helper()
	if data, is := shown(s.disk, "c."+s.name+".import"); !is || data != journalForm(want) {
		got, err := intake.Journal(s.cache)
		t.Errorf("%s: %v, %v, want %v", what, got, err, want)
	}
}

// wantHolds asks a cache for just these blobs, and for that table.
func (s *store) wantHolds(t testing.TB, what string, blobs []string, results []api.Result) {
	t.Helper()
	ids, err := s.cache.Blobs()
	if want := rising(idsOf(s.width, blobs...)...); err != nil || !slices.Equal(ids, want) {
		t.Errorf("%s: %d blobs, want %d: %v", what, len(ids), len(want), err)
	}
	for _, b := range blobs {
		if got, err := s.cache.Get(idOf(s.width, b)); err != nil || string(got) != b {
			t.Errorf("%s: %.20q, %v, want %.20q", what, got, err, b)
		}
	}
	if got, err := s.cache.Table(); err != nil || !slices.Equal(got, results) {
		t.Errorf("%s: table %v, %v, want %v", what, got, err, results)
	}
}

// fill writes over a list, and over its room.
func fill[T any](list []T, with T) {
	whole := list[:cap(list)]
	for i := range whole {
		whole[i] = with
	}
}

// spare is a list with room behind its end that is written full.
func spare[T any](list []T, with T) []T {
	whole := append(slices.Clone(list), with, with, with)
	return whole[:len(list):len(whole)]
}

// isSpare tells whether such a list is as it was, and its room too.
func isSpare[T comparable](list, was []T, with T) bool {
	room := list[len(list):cap(list)]
	return slices.Equal(list, was) && !slices.ContainsFunc(room, func(one T) bool { return one != with })
}
