package export_test

import (
	"bytes"
	"crypto/sha256"
	"encoding/hex"
	"errors"
	"fmt"
	"math/rand/v2"
	"slices"
	"strings"
	"testing"

	"freight/api"
	"freight/block"
	"freight/bundle"
	"freight/cache"
	"freight/disk"
	"freight/export"
	"freight/table"
	"freight/tree"
)

// noise is the same row of numbers in every run.
func noise() *rand.Rand { return rand.New(rand.NewPCG(14, 41)) }

func times(n int, text string) string { return strings.Repeat(text, n) }

// drawn is a text of n bytes that do not pack.
func drawn(r *rand.Rand, n int) string {
	data := make([]byte, n)
	for i := range data {
		data[i] = byte(r.IntN(256))
	}
	return string(data)
}

// idOf is an id by another hand.
func idOf(width int, data string) api.ID {
	full := sha256.Sum256([]byte(data))
	clear(full[width:])
	return full
}

// act is the action whose first byte that is.
func act(first byte) api.ID { return api.ID{first} }

func acts(firsts ...byte) []api.ID {
	var list []api.ID
	for _, first := range firsts {
		list = append(list, act(first))
	}
	return list
}

func res(action byte, root api.ID, code int) api.Result {
	return api.Result{Action: act(action), Root: root, Code: code}
}

// Entries of trees that treeOf gives their names.
func aFile(id api.ID) api.Entry   { return api.Entry{Kind: api.KindFile, ID: id} }
func aRun(id api.ID) api.Entry    { return api.Entry{Kind: api.KindRun, ID: id} }
func aFolder(id api.ID) api.Entry { return api.Entry{Kind: api.KindFolder, ID: id} }

func treeOf(entries ...api.Entry) string {
	for i := range entries {
		if entries[i].Name == "" {
			entries[i].Name = fmt.Sprintf("%02d", i)
		}
	}
	data, errno := tree.Encode(entries)
	if errno != api.OK {
		panic(fmt.Sprintf("no tree of %d entries: %d", len(entries), errno))
	}
	return string(data)
}

// filesTree is a tree of these files.
func filesTree(width int, blobs ...string) string {
	var entries []api.Entry
	for _, b := range blobs {
		entries = append(entries, aFile(idOf(width, b)))
	}
	return treeOf(entries...)
}

// goods are what a cache holds.
type goods struct {
	width   int
	blobs   []string
	results []api.Result
}

// with are more goods.
func (g goods) with(blobs []string, results ...api.Result) goods {
	g.blobs = slices.Concat(g.blobs, blobs)
	g.results = slices.Concat(g.results, results)
	return g
}

func (g goods) id(blob string) api.ID { return idOf(g.width, blob) }

// blobName is the name of a blob's file in a cache.
func blobName(name string, id api.ID) string {
	return "c." + name + ".b." + hex.EncodeToString(id[:])
}

func of(name, data string) api.FileBytes { return api.FileBytes{Name: name, Data: []byte(data)} }

// tableOf is the form of a table of results, in whatever order they stand.
func tableOf(results ...api.Result) string {
	sorted := slices.Clone(results)
	slices.SortFunc(sorted, func(a, b api.Result) int { return bytes.Compare(a.Action[:], b.Action[:]) })
	data, errno := table.Encode(sorted)
	if errno != api.OK {
		panic(fmt.Sprintf("no table of %d results: %d", len(results), errno))
	}
	return string(data)
}

// files are those of a cache of that name that holds the goods.
func (g goods) files(name string) []api.FileBytes {
	files := []api.FileBytes{of("c."+name+".table", tableOf(g.results...))}
	seen := map[api.ID]string{}
	for _, b := range g.blobs {
		if other, is := seen[g.id(b)]; is && other != b {
			panic("a clash")
		} else if is {
			continue
		}
		seen[g.id(b)] = b
		files = append(files, of(blobName(name, g.id(b)), b))
	}
	return files
}

// store is a cache on a disk.
type store struct {
	disk  *disk.Disk
	cache *cache.Cache
	name  string
	width int
}

func mustLoad(t testing.TB, room int, files ...api.FileBytes) *disk.Disk {
	t.Helper()
	d, errno := disk.Load(room, files)
	if errno != api.OK {
		t.Fatalf("no disk: %d", errno)
	}
	return d
}

// opened is the cache of that name on a disk.
func opened(t testing.TB, d *disk.Disk, name string, width int) *store {
	t.Helper()
	c, err := cache.Open(d, name, width)
	if err != nil {
		t.Fatalf("Open(%q, %d): %v", name, width, err)
	}
	return &store{d, c, name, width}
}

// stored is the cache a that holds goods, with other files beside, on a disk with
// room. All of it is safe.
func stored(t testing.TB, g goods, beside ...api.FileBytes) *store {
	t.Helper()
	return opened(t, mustLoad(t, api.MaxRoom, slices.Concat(g.files("a"), beside)...), "a", g.width)
}

const (
	crate  = "crate 7 of 31, bay 2"
	pallet = "pallet pallet pallet pallet pallet pallet pallet pallet"
)

// stock is four results: the first has all blobs but the tree of the third, the
// second a part of them; the last has the first one's root.
func stock(width int) goods {
	inner := treeOf(aFile(idOf(width, "")), aRun(idOf(width, pallet)))
	outer := treeOf(aFile(idOf(width, crate)), aFolder(idOf(width, inner)))
	other := treeOf(aRun(idOf(width, crate)), aFile(idOf(width, crate)))
	return goods{width, []string{crate, pallet, "", inner, outer, other}, []api.Result{
		res(1, idOf(width, outer), 7),
		res(2, idOf(width, inner), 255),
		res(3, idOf(width, other), 0),
		res(4, idOf(width, outer), 0),
	}}
}

// hand lays a file by hand, safe.
func (s *store) hand(t testing.TB, name, data string) {
	t.Helper()
	s.disk.Remove(name)
	for _, errno := range []api.Errno{s.disk.Create(name), s.disk.Append(name, []byte(data)), s.disk.Sync(name), s.disk.SyncNames()} {
		if errno != api.OK {
			t.Fatalf("by hand: %s: %d", name, errno)
		}
	}
}

// away takes a file away by hand, safe.
func (s *store) away(t testing.TB, name string) {
	t.Helper()
	if s.disk.Remove(name) != api.OK || s.disk.SyncNames() != api.OK {
		t.Fatalf("by hand: %s is not there", name)
	}
}

// damage makes the file of a blob damage.
func (s *store) damage(t testing.TB, id api.ID, other string) {
	t.Helper()
	if idOf(s.width, other) == id {
		t.Fatal("no damage")
	}
	s.hand(t, blobName(s.name, id), other)
}

// darken is the power's end.
func (s *store) darken(t testing.TB) {
	t.Helper()
	s.disk.Plan(api.Plan{Off: 1})
	if s.disk.SyncNames() != api.ErrOff || !s.disk.Off() {
		t.Fatal("its power is on")
	}
}

// shown is a file as the disk shows it.
func shown(d *disk.Disk, name string) (string, bool) {
	for _, f := range d.Files() {
		if f.Name == name {
			return string(f.Data), true
		}
	}
	return "", false
}

// sameFiles tells whether files are alike, byte by byte.
func sameFiles(one, other []api.FileBytes) bool {
	return slices.EqualFunc(one, other, func(a, b api.FileBytes) bool { return a.Name == b.Name && bytes.Equal(a.Data, b.Data) })
}

// without are the files of other names.
func without(files []api.FileBytes, names ...string) []api.FileBytes {
	return slices.DeleteFunc(slices.Clone(files), func(f api.FileBytes) bool { return slices.Contains(names, f.Name) })
}

// show: files in words.
func show(files []api.FileBytes) string {
	var words []string
	for _, f := range files {
		words = append(words, fmt.Sprintf("%.20s=%.10q/%d", f.Name, f.Data, len(f.Data)))
	}
	return strings.Join(words, " ")
}

// crashes are picks for every part of a short row of changes of names, and of
// bytes at their ends and within them.
func crashes() [][]int {
	var picks [][]int
	for names := range 5 {
		for _, units := range []int{0, 1, 9, 100, -1} {
			picks = append(picks, slices.Concat([]int{names}, slices.Repeat([]int{units}, 16)))
		}
	}
	return append(picks, nil, slices.Repeat([]int{-1}, 16), []int{1, -2, 3, -4, 5}, []int{1 << 40, -1 << 40, 7})
}

// wantSameDisk asks that two disks tell the same of themselves, and leave the
// same behind crashes.
func wantSameDisk(t testing.TB, what string, got, want *disk.Disk) {
	t.Helper()
	if got.Off() != want.Off() || got.Strokes() != want.Strokes() {
		t.Errorf("%s: off %t, %d strokes, want %t and %d", what, got.Off(), got.Strokes(), want.Off(), want.Strokes())
	}
	if !sameFiles(got.Files(), want.Files()) || !sameFiles(got.Safe(), want.Safe()) {
		t.Errorf("%s: %s; safe %s\nwant: %s; safe %s", what, show(got.Files()), show(got.Safe()), show(want.Files()), show(want.Safe()))
	}
	for _, picks := range [][]int{{1, 2, 3, 4, 5}, {2, 30, 30, 30, 30}, slices.Repeat([]int{-1}, 16)} {
		one, other := got.Twin(), want.Twin()
		one.Crash(picks...)
		other.Crash(picks...)
		if !sameFiles(one.Files(), other.Files()) {
			t.Errorf("%s, Crash(%v): %s\nwant: %s", what, picks, show(one.Files()), show(other.Files()))
		}
	}
}

// wantFault asks for the fault of that call, name, id and number; for nil, if it
// is OK.
func wantFault(t testing.TB, what string, err error, op, name string, want api.Errno, id api.ID) {
	t.Helper()
	if want == api.OK {
		if err != nil {
			t.Errorf("%s: %v, want OK", what, err)
		}
		return
	}
	fault, is := err.(*api.Fault)
	if !is || fault == nil {
		t.Errorf("%s: %v (%T), want a fault with %d", what, err, err, want)
		return
	}
	var errno api.Errno
	if fault.Op != op || fault.Name != name || fault.ID != id || api.Code(err) != want || !errors.Is(err, want) || !errors.As(err, &errno) || errno != want {
		t.Errorf("%s: %q %q %x %v, want %q %q %x and %d", what, fault.Op, fault.Name, fault.ID[:3], fault.Err, op, name, id[:3], want)
	}
}

// mustBuild is what Build answers.
func (s *store) mustBuild(t testing.TB, actions []api.ID, size int) []byte {
	t.Helper()
	data, err := export.Build(s.cache, actions, size)
	if err != nil || len(data) == 0 {
		t.Fatalf("Build(%d actions, %d): %d bytes, %v", len(actions), size, len(data), err)
	}
	return data
}

// wantRefused asks both calls for that error, with nothing told and nothing
// changed.
func (s *store) wantRefused(t testing.TB, what string, actions []api.ID, size int, want api.Errno, id api.ID) {
	t.Helper()
	before := s.disk.Twin()
	data, err := export.Build(s.cache, actions, size)
	wantFault(t, what+": Build", err, "export.build", s.name, want, id)
	if data != nil {
		t.Errorf("%s: Build tells %d bytes beside an error", what, len(data))
	}
	for _, name := range []string{"x", "f.b", "c.a.table"} {
		err = export.Export(s.cache, actions, size, name)
		wantFault(t, what+": Export to "+name, err, "export.export", s.name, want, id)
	}
	wantSameDisk(t, what, s.disk, before)
}

// wantBuilt asks Build for what the words say; it tells which error that was.
func (s *store) wantBuilt(t testing.TB, what string, actions []api.ID, size int) api.Errno {
	t.Helper()
	before := s.disk.Twin()
	want := buildByWords(s.disk, s.name, s.width, actions, size)
	data, err := export.Build(s.cache, actions, size)
	wantFault(t, what, err, "export.build", s.name, want.code, want.id)
	if !bytes.Equal(data, want.data) {
		t.Errorf("%s: %d other bytes, want %d", what, len(data), len(want.data))
	}
	wantSameDisk(t, what, s.disk, before)
	return want.code
}

// wantExported asks Export for what the words say, with just the strokes of
// chapter 6; it tells which error that was.
func (s *store) wantExported(t testing.TB, what string, actions []api.ID, size int, name string) api.Errno {
	t.Helper()
	twin := s.disk.Twin()
	want := exportByWords(twin, s.name, s.width, actions, size, name)
	err := export.Export(s.cache, actions, size, name)
	wantFault(t, what, err, "export.export", s.name, want.code, want.id)
	wantSameDisk(t, what, s.disk, twin)
	return want.code
}

// held are the blobs of a good bundle by their ids.
func held(t testing.TB, data []byte, width int) (api.Face, map[api.ID]string) {
	t.Helper()
	face, err := bundle.Verify(data, width)
	if err != nil {
		t.Fatalf("Verify of %d bytes, width %d: %v", len(data), width, err)
	}
	var row []byte
	for _, b := range face.Blocks {
		raw, errno := block.Open(data[b.At:b.At+b.Packed], b)
		if errno != api.OK {
			t.Fatalf("a block: %d", errno)
		}
		row = append(row, raw...)
	}
	blobs := map[api.ID]string{}
	for _, place := range face.Blobs {
		blobs[place.ID] = string(row[place.At : place.At+place.N])
	}
	return face, blobs
}

// fill writes over a list, and over its room.
func fill[T any](list []T, with T) {
	whole := list[:cap(list)]
	for i := range whole {
		whole[i] = with
	}
}
