package depot_test

import (
	"bytes"
	"crypto/sha256"
	"encoding/binary"
	"encoding/hex"
	"fmt"
	"hash/crc32"
	"maps"
	"math/rand/v2"
	"slices"
	"strings"
	"testing"

	"freight/api"
	"freight/bundle"
	"freight/depot"
	"freight/disk"
	"freight/tree"
)

// noise is the same row of numbers in every run.
func noise() *rand.Rand { return rand.New(rand.NewPCG(19, 91)) }

func times(n int, text string) string { return strings.Repeat(text, n) }

// idOf is an id by another hand.
func idOf(width int, data string) api.ID {
	full := sha256.Sum256([]byte(data))
	clear(full[width:])
	return full
}

func idsOf(width int, blobs ...string) []api.ID {
	var ids []api.ID
	for _, b := range blobs {
		ids = append(ids, idOf(width, b))
	}
	return ids
}

func compare(a, b api.ID) int { return bytes.Compare(a[:], b[:]) }

// rising are ids in their order, each once.
func rising(ids ...api.ID) []api.ID {
	sorted := slices.Clone(ids)
	slices.SortFunc(sorted, compare)
	return slices.Compact(sorted)
}

// keysOf are the ids of a map, rising.
func keysOf[T any](m map[api.ID]T) []api.ID { return slices.SortedFunc(maps.Keys(m), compare) }

// clash is another row of bytes of a blob's id, in a narrow width.
func clash(width int, blob string) string {
	for i := 0; ; i++ {
		if other := fmt.Sprint("clash ", i); other != blob && idOf(width, other) == idOf(width, blob) {
			return other
		}
	}
}

// strangers are n blobs whose ids are unlike, and unlike those of the others too.
func strangers(width, n int, others ...string) []string {
	seen := map[api.ID]int{}
	for _, b := range others {
		seen[idOf(width, b)]++
	}
	var list []string
	for i := 0; len(list) < n; i++ {
		blob := fmt.Sprint("stranger ", i)
		if seen[idOf(width, blob)]++; seen[idOf(width, blob)] == 1 {
			list = append(list, blob)
		}
	}
	return list
}

// act is the action whose first byte that is.
func act(first byte) api.ID { return api.ID{first} }

func acts(firsts ...byte) []api.ID {
	var ids []api.ID
	for _, first := range firsts {
		ids = append(ids, act(first))
	}
	return ids
}

// actionsOf are those of some results.
func actionsOf(results ...api.Result) []api.ID {
	var ids []api.ID
	for _, r := range results {
		ids = append(ids, r.Action)
	}
	return ids
}

func res(action byte, root api.ID, code int) api.Result {
	return api.Result{Action: act(action), Root: root, Code: code}
}

// resultsFrom are n results of rising actions, the first of them with that byte.
func resultsFrom(first byte, n int, root api.ID) []api.Result {
	var list []api.Result
	for i := range n {
		list = append(list, res(first+byte(i), root, i))
	}
	return list
}

func policies() []int { return []int{api.Keep, api.Take, api.Fail} }

// Entries of trees that treeOf gives their names.
func aFile(id api.ID) api.Entry   { return api.Entry{Kind: api.KindFile, ID: id} }
func aRun(id api.ID) api.Entry    { return api.Entry{Kind: api.KindRun, ID: id} }
func aFolder(id api.ID) api.Entry { return api.Entry{Kind: api.KindFolder, ID: id} }

func treeOf(entries ...api.Entry) string {
	for i := range entries {
		entries[i].Name = fmt.Sprintf("%02d", i)
	}
	data, errno := tree.Encode(entries)
	if errno != api.OK {
		panic(fmt.Sprintf("no tree of %d entries: %d", len(entries), errno))
	}
	return string(data)
}

// filesTree is a tree of these files.
func filesTree(width int, blobs ...string) string {
	var entries []api.Entry
	for _, b := range blobs {
		entries = append(entries, aFile(idOf(width, b)))
	}
	return treeOf(entries...)
}

// chain are n trees, each but the first with the one ahead of it as its folder;
// the first has a file.
func chain(width, n int, file string) []string {
	list := []string{filesTree(width, file)}
	for len(list) < n {
		list = append(list, treeOf(aFolder(idOf(width, list[len(list)-1]))))
	}
	return list
}

// emptyTree is the bytes of a tree without entries.
const emptyTree = "T\x00"

const (
	crate  = "crate 7 of 31, bay 2"
	pallet = "pallet pallet pallet pallet pallet pallet pallet pallet"
)

// goods are blobs, and results whose need is whole in them.
type goods struct {
	width   int
	blobs   []string
	results []api.Result
}

// stock is four results: the first needs all blobs but the tree of the third, the
// second a part of them; the last has the first one's root.
func stock(width int) goods {
	inner := treeOf(aFile(idOf(width, "")), aRun(idOf(width, pallet)))
	outer := treeOf(aFile(idOf(width, crate)), aFolder(idOf(width, inner)))
	other := treeOf(aRun(idOf(width, crate)), aFile(idOf(width, crate)))
	return goods{width, []string{crate, pallet, "", inner, outer, other}, []api.Result{
		res(11, idOf(width, outer), 7),
		res(12, idOf(width, inner), 255),
		res(13, idOf(width, other), 0),
		res(14, idOf(width, outer), 0),
	}}
}

func (g goods) id(blob string) api.ID { return idOf(g.width, blob) }

// ids are those of all blobs, rising.
func (g goods) ids() []api.ID { return rising(idsOf(g.width, g.blobs...)...) }

// byID are the blobs by their ids.
func (g goods) byID() map[api.ID]string {
	m := map[api.ID]string{}
	for _, b := range g.blobs {
		m[g.id(b)] = b
	}
	return m
}

// needOf is the need of some results.
func (g goods) needOf(results ...api.Result) []api.ID {
	need, refused := needByWords(getOf(g.byID()), results)
	if refused.code != api.OK {
		panic(fmt.Sprint("no need: ", refused))
	}
	return need
}

// part is goods of just these results and their need.
func (g goods) part(results ...api.Result) goods {
	p := goods{width: g.width, results: results}
	for _, id := range g.needOf(results...) {
		p.blobs = append(p.blobs, g.byID()[id])
	}
	return p
}

// bundle is that of the goods, whether it is good or not.
func (g goods) bundle(size int) string {
	var blobs [][]byte
	for _, b := range g.blobs {
		blobs = append(blobs, []byte(b))
	}
	data, err := bundle.Make(g.width, g.results, blobs, size)
	if err != nil {
		panic(err)
	}
	return string(data)
}

// files are those of a cache of that name with just these goods.
func (g goods) files(name string) []api.FileBytes {
	var files []api.FileBytes
	for _, b := range g.blobs {
		files = append(files, of(blobName(name, g.id(b)), b))
	}
	return append(files, of("c."+name+".table", tableForm(g.results)))
}

func faceOf(data string, width int) api.Face {
	face, err := bundle.Parse([]byte(data), width)
	if err != nil {
		panic(err)
	}
	return face
}

// turned is a row of bytes of which one is another.
func turned(data string, at int) string {
	row := []byte(data)
	row[at] ^= 1
	return string(row)
}

// spoilt is a bundle of which the block k is spoilt.
func spoilt(data string, width, k int) string {
	return turned(data, faceOf(data, width).Blocks[k].At)
}

// withID is a bundle that says another id of its k-th blob: the last byte of the
// width is another. Its entries have their sum all the same.
func withID(data string, width, k int) string {
	face := faceOf(data, width)
	whole := []byte(data)
	trailer := whole[len(whole)-31:]
	at, n := int(binary.BigEndian.Uint32(trailer)), int(binary.BigEndian.Uint32(trailer[4:]))
	entries := whole[at : at+n]
	entries[2+65*len(face.Results)+2+k*(width+2)+width-1] ^= 1
	binary.BigEndian.PutUint32(trailer[8:], crc32.ChecksumIEEE(entries))
	return string(whole)
}

// blobName is the name of a blob's file in a cache.
func blobName(name string, id api.ID) string {
	return "c." + name + ".b." + hex.EncodeToString(id[:])
}

func of(name, data string) api.FileBytes { return api.FileBytes{Name: name, Data: []byte(data)} }

// manyFiles are n files of no bytes.
func manyFiles(n int) []api.FileBytes {
	var files []api.FileBytes
	for i := range n {
		files = append(files, of(fmt.Sprint("z.", i), ""))
	}
	return files
}

// begin is an empty depot.
func begin(t testing.TB, width, room int) *depot.Depot {
	t.Helper()
	d, errno := depot.New(api.Rules{Width: width, Room: room})
	if errno != api.OK || d == nil {
		t.Fatalf("New(%d, %d): %d", width, room, errno)
	}
	return d
}

// load is a depot with just these files, all of them safe, and no stroke as yet.
func load(t testing.TB, width, room int, files ...api.FileBytes) *depot.Depot {
	t.Helper()
	d := begin(t, width, room)
	made, errno := disk.Load(room, files)
	if errno != api.OK {
		t.Fatalf("no disk: %d", errno)
	}
	*d.Disk() = *made
	return d
}

// twin is a depot whose disk is as this one's, and has nothing in common with it.
func twin(t testing.TB, d *depot.Depot, width int) *depot.Depot {
	t.Helper()
	other := begin(t, width, max(d.Disk().Room(), 1))
	*other.Disk() = *d.Disk().Twin()
	return other
}

// darken is the power's end.
func darken(t testing.TB, d *depot.Depot) *depot.Depot {
	t.Helper()
	d.Disk().Plan(api.Plan{Off: 1})
	if d.Disk().SyncNames() != api.ErrOff || !d.Disk().Off() {
		t.Fatal("its power is on")
	}
	return d
}

// noDepots are depots without a disk.
func noDepots() []*depot.Depot { return []*depot.Depot{nil, {}, new(depot.Depot)} }

// shown is a file as the disk shows it.
func shown(d *disk.Disk, name string) (string, bool) {
	for _, f := range d.Files() {
		if f.Name == name {
			return string(f.Data), true
		}
	}
	return "", false
}

// sameFiles tells whether files are alike, byte by byte.
func sameFiles(one, other []api.FileBytes) bool {
	return slices.EqualFunc(one, other, func(a, b api.FileBytes) bool { return a.Name == b.Name && bytes.Equal(a.Data, b.Data) })
}

// filed are files by their names.
func filed(files []api.FileBytes) map[string]string {
	m := map[string]string{}
	for _, f := range files {
		m[f.Name] = string(f.Data)
	}
	return m
}

// show: files in words.
func show(files []api.FileBytes) string {
	var words []string
	for _, f := range files {
		words = append(words, fmt.Sprintf("%.14s=%.10q/%d", f.Name, f.Data, len(f.Data)))
	}
	return strings.Join(words, " ")
}

// somePicks are those of a few crashes that leave much, little, and what lies between.
func somePicks() [][]int {
	return [][]int{{1, 2, 3, 4, 5}, slices.Concat([]int{2}, slices.Repeat([]int{30}, 40)), slices.Repeat([]int{-1}, 270), nil}
}

// wantSameDisk asks that two disks tell the same of themselves, and leave the
// same behind crashes.
func wantSameDisk(t testing.TB, what string, got, want *disk.Disk) {
	t.Helper()
	if got.Off() != want.Off() || got.Strokes() != want.Strokes() || got.Room() != want.Room() {
		t.Errorf("%s: off %t, %d strokes, want %t and %d", what, got.Off(), got.Strokes(), want.Off(), want.Strokes())
	}
	files, safe := got.Files(), got.Safe()
	if !sameFiles(files, want.Files()) || !sameFiles(safe, want.Safe()) {
		t.Errorf("%s: %s; safe %s\nwant: %s; safe %s", what, show(files), show(safe), show(want.Files()), show(want.Safe()))
	}
	if sameFiles(files, safe) && !got.Off() {
		return // as a rule nothing is left to a crash then; TestP0_12 asks for it
	}
	for _, picks := range somePicks() {
		one, other := got.Twin(), want.Twin()
		one.Crash(picks...)
		other.Crash(picks...)
		if !sameFiles(one.Files(), other.Files()) {
			t.Errorf("%s, Crash(%v): %s\nwant: %s", what, picks, show(one.Files()), show(other.Files()))
		}
	}
}

// sameAnswer tells whether answers are alike; a nil list is as an empty one.
func sameAnswer(a, b api.Answer) bool {
	return a.Code == b.Code && a.ID == b.ID && bytes.Equal(a.Data, b.Data) && slices.Equal(a.IDs, b.IDs) && slices.Equal(a.Results, b.Results) && slices.Equal(a.Blobs, b.Blobs)
}

// brief: an answer in words.
func brief(a api.Answer) string {
	return fmt.Sprintf("%d %x, %d bytes %.20q, %d ids, %d results, %d blobs", int(a.Code), a.ID[:4], len(a.Data), a.Data, len(a.IDs), len(a.Results), len(a.Blobs))
}

// wantAnswer does a step, and asks for that answer.
func wantAnswer(t testing.TB, d *depot.Depot, s api.Step, want api.Answer) api.Answer {
	t.Helper()
	got := d.Do(s)
	if !sameAnswer(got, want) {
		t.Errorf("%s: %s, want %s", name(s), brief(got), brief(want))
	}
	return got
}

// wantOK does a step that must be OK, and tells its answer.
func wantOK(t testing.TB, d *depot.Depot, s api.Step) api.Answer {
	t.Helper()
	got := d.Do(s)
	if got.Code != api.OK {
		t.Fatalf("%s: %s, want OK", name(s), brief(got))
	}
	return got
}

// wantDone does a step that must be OK and tells nothing.
func wantDone(t testing.TB, d *depot.Depot, s api.Step) {
	t.Helper()
	wantAnswer(t, d, s, api.Answer{})
}

// wantCode does a step, and asks for that number and id, and for nothing beside them.
func wantCode(t testing.TB, d *depot.Depot, s api.Step, code api.Errno, id api.ID) {
	t.Helper()
	wantAnswer(t, d, s, api.Answer{Code: code, ID: id})
}

// wantRefused is wantCode; nothing has changed.
func wantRefused(t testing.TB, d *depot.Depot, s api.Step, code api.Errno, id api.ID) {
	t.Helper()
	before := d.Disk().Twin()
	wantCode(t, d, s, code, id)
	wantSameDisk(t, name(s)+" refused", d.Disk(), before)
}

// wantHolds asks a cache for just these blobs, and for that table.
func wantHolds(t testing.TB, d *depot.Depot, cache string, width int, blobs []string, results []api.Result) {
	t.Helper()
	wantAnswer(t, d, telling(cache), api.Answer{IDs: rising(idsOf(width, blobs...)...), Results: results})
	for _, b := range blobs {
		wantAnswer(t, d, get(cache, idOf(width, b)), api.Answer{Data: []byte(b)})
	}
}

// fill writes over a list, and over its room.
func fill[T any](list []T, with T) {
	whole := list[:cap(list)]
	for i := range whole {
		whole[i] = with
	}
}

// spare is a list with room behind its end that is written full.
func spare[T any](list []T, with T) []T {
	whole := append(slices.Clone(list), with, with, with)
	return whole[:len(list):len(whole)]
}

// isSpare tells whether such a list is as it was, and its room too.
func isSpare[T comparable](list, was []T, with T) bool {
	room := list[len(list):cap(list)]
	return slices.Equal(list, was) && !slices.ContainsFunc(room, func(one T) bool { return one != with })
}
