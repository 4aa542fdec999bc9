package cache_test

import (
	"crypto/sha256"
	"encoding/hex"
	"errors"
	"fmt"
	"math/rand/v2"
	"slices"
	"strings"
	"testing"

	"freight/api"
	"freight/cache"
	"freight/disk"
	"freight/table"
	"freight/tree"
)

// noise is the same row of numbers in every run.
func noise() *rand.Rand { return rand.New(rand.NewPCG(10, 128)) }

// of is a file.
func of(name, data string) api.FileBytes {
	return api.FileBytes{Name: name, Data: []byte(data)}
}

// times is a text of n bytes.
func times(n int, text string) string { return strings.Repeat(text, n) }

func mustLoad(t testing.TB, room int, files ...api.FileBytes) *disk.Disk {
	t.Helper()
	d, errno := disk.Load(room, files)
	if errno != api.OK || d == nil {
		t.Fatalf("Load(%d, %d files): %d", room, len(files), errno)
	}
	return d
}

func mustOpen(t testing.TB, d *disk.Disk, name string, width int) *cache.Cache {
	t.Helper()
	c, err := cache.Open(d, name, width)
	if err != nil || c == nil {
		t.Fatalf("Open(%q, %d): %v", name, width, err)
	}
	return c
}

// made is the cache a of the width 1, on a disk with room and these files.
func made(t testing.TB, files ...api.FileBytes) (*disk.Disk, *cache.Cache) {
	t.Helper()
	d := mustLoad(t, api.MaxRoom, files...)
	return d, mustOpen(t, d, "a", 1)
}

// darken is the power's end.
func darken(t testing.TB, d *disk.Disk) {
	t.Helper()
	d.Plan(api.Plan{Off: 1})
	if d.SyncNames() != api.ErrOff || !d.Off() {
		t.Fatal("its power is on")
	}
}

// off is the cache a, of the width 1, on a disk whose power went off.
func off(t testing.TB, files ...api.FileBytes) (*disk.Disk, *cache.Cache) {
	t.Helper()
	d, c := made(t, files...)
	darken(t, d)
	return d, c
}

// idOf is taken from the library's digest, not from the project's.
func idOf(width int, data string) api.ID {
	full := sha256.Sum256([]byte(data))
	var id api.ID
	copy(id[:width], full[:])
	return id
}

// id1 is an id of the width 1.
func id1(data string) api.ID { return idOf(1, data) }

func inHex(id api.ID) string { return hex.EncodeToString(id[:]) }

// nameOf is the name of an id's file in the cache a.
func nameOf(id api.ID) string { return "c.a.b." + inHex(id) }

// blob is the file of a blob in the cache a of the width 1.
func blob(data string) api.FileBytes { return of(nameOf(id1(data)), data) }

// damage is a file of that blob, with other bytes.
func damage(data, other string) api.FileBytes { return of(nameOf(id1(data)), other) }

// many are n files of nobody.
func many(n int) []api.FileBytes {
	var files []api.FileBytes
	for i := range n {
		files = append(files, of(fmt.Sprintf("m%03d", i), ""))
	}
	return files
}

// damages are n files of blobs of the cache a, none of which has its id.
func damages(n int) []api.FileBytes {
	var files []api.FileBytes
	for i := range n {
		id := api.ID{byte(i)}
		text := "damage"
		for id1(text) == id {
			text += "d"
		}
		files = append(files, of(nameOf(id), text))
	}
	return files
}

// Entries of trees that treeOf gives their names.
func aFile(id api.ID) api.Entry   { return api.Entry{Kind: api.KindFile, ID: id} }
func aRun(id api.ID) api.Entry    { return api.Entry{Kind: api.KindRun, ID: id} }
func aFolder(id api.ID) api.Entry { return api.Entry{Kind: api.KindFolder, ID: id} }

func treeOf(entries ...api.Entry) string {
	for i := range entries {
		if entries[i].Name == "" {
			entries[i].Name = fmt.Sprintf("%02d", i)
		}
	}
	data, errno := tree.Encode(entries)
	if errno != api.OK {
		panic(fmt.Sprintf("no tree of %d entries: %d", len(entries), errno))
	}
	return string(data)
}

// tableOf is the form of a table.
func tableOf(results ...api.Result) string {
	data, errno := table.Encode(results)
	if errno != api.OK {
		panic(fmt.Sprintf("no table of %d results: %d", len(results), errno))
	}
	return string(data)
}

// res is a result of the action whose first byte that is.
func res(action byte, root api.ID, code int) api.Result {
	return api.Result{Action: api.ID{action}, Root: root, Code: code}
}

// actions are n results of that root.
func actions(n int, root api.ID) []api.Result {
	var results []api.Result
	for i := range n {
		results = append(results, res(byte(2*i), root, i))
	}
	return results
}

// clash is two unlike rows of one id of the width 1, neither of them a tree.
func clash() (string, string) {
	seen := map[api.ID]string{}
	for i := 0; ; i++ {
		row := fmt.Sprintf("row %d", i)
		if other, is := seen[id1(row)]; is {
			return other, row
		}
		seen[id1(row)] = row
	}
}

// circle is a tree with a folder that is itself, at the width 1.
func circle() string {
	for i := 0; ; i++ {
		for first := range 256 {
			id := api.ID{byte(first)}
			data := treeOf(api.Entry{Name: fmt.Sprint("n", i), Kind: api.KindFolder, ID: id})
			if id1(data) == id {
				return data
			}
		}
	}
}

// do asks for OK of calls of the disk.
func do(t testing.TB, answers ...api.Errno) {
	t.Helper()
	for i, errno := range answers {
		if errno != api.OK {
			t.Fatalf("call %d of the disk: %d", i, errno)
		}
	}
}

// hand lays a file by hand, safe.
func hand(t testing.TB, d *disk.Disk, name, data string) {
	t.Helper()
	d.Remove(name)
	do(t, d.Create(name), d.Append(name, []byte(data)), d.Sync(name), d.SyncNames())
}

func away(t testing.TB, d *disk.Disk, name string) {
	t.Helper()
	do(t, d.Remove(name), d.SyncNames())
}

// show: files in words.
func show(files []api.FileBytes) string {
	var words []string
	for _, f := range files {
		words = append(words, fmt.Sprintf("%s=%.40q/%d", strings.TrimRight(f.Name, "0"), f.Data, len(f.Data)))
	}
	return strings.Join(words, " ")
}

// same tells whether files are alike, byte by byte.
func same(one, other []api.FileBytes) bool {
	return slices.EqualFunc(one, other, func(a, b api.FileBytes) bool { return a.Name == b.Name && string(a.Data) == string(b.Data) })
}

// all is what a disk tells of itself, but what was read, which is free.
func all(d *disk.Disk) string {
	return fmt.Sprintf("off %t, %d strokes, %d of %d, files %s; safe %s", d.Off(), d.Strokes(), d.Used(), d.Room(), show(d.Files()), show(d.Safe()))
}

// crashes are picks for every part of a short row of changes of names, and of bytes at their ends and within them.
func crashes() [][]int {
	var picks [][]int
	for names := range 5 {
		for _, units := range []int{0, 1, 3, 9, -1} {
			picks = append(picks, slices.Concat([]int{names}, slices.Repeat([]int{units}, 12)))
		}
	}
	return append(picks, nil, slices.Repeat([]int{-1}, 12), []int{1, -2, 3, -4, 5}, []int{2, 0, 1, 2, 3}, []int{1 << 40, -1 << 40, 7})
}

// rows is what is not safe as yet, as crashes tell it.
func rows(d *disk.Disk) string {
	var text strings.Builder
	for _, picks := range crashes() {
		w := d.Twin()
		w.Crash(picks...)
		text.WriteString(show(w.Files()) + "\n")
	}
	return text.String()
}

// short are ids by their first bytes.
func short(ids ...api.ID) string {
	var words []string
	for _, id := range ids {
		words = append(words, strings.TrimRight(inHex(id), "0")+"..")
	}
	return strings.Join(words, " ")
}

func told(results ...api.Result) string {
	var words []string
	for _, r := range results {
		words = append(words, fmt.Sprintf("(%s %s %d)", short(r.Action), short(r.Root), r.Code))
	}
	return strings.Join(words, " ")
}

// wantFault asks for the fault of that call, name, id and number; for nil, if it is OK.
func wantFault(t testing.TB, what string, err error, op, name string, id api.ID, want api.Errno) {
	t.Helper()
	if want == api.OK {
		if err != nil {
			t.Errorf("%s: %v, want OK", what, err)
		}
		return
	}
	fault, is := err.(*api.Fault)
	if !is || fault == nil {
		t.Errorf("%s: %v (%T), want a fault with %d", what, err, err, want)
		return
	}
	if fault.Op != op || fault.Name != name || fault.ID != id || !errors.Is(err, want) || api.Code(err) != want {
		t.Errorf("%s: %q %q %s %v, want %q %q %s and %d", what, fault.Op, fault.Name, short(fault.ID), fault.Err, op, name, short(id), want)
	}
}

// Each of these asks a call of the cache for its answer, or for its refusal with nothing told.

func wantGet(t testing.TB, c *cache.Cache, id api.ID, data string) {
	t.Helper()
	got, err := c.Get(id)
	if err != nil || string(got) != data {
		t.Errorf("Get(%s): %.40q, %v, want %.40q", short(id), got, err, data)
	}
}

func wantNoGet(t testing.TB, c *cache.Cache, id api.ID, of api.ID, want api.Errno) {
	t.Helper()
	got, err := c.Get(id)
	wantFault(t, "Get("+short(id)+")", err, "cache.get", c.Name(), of, want)
	if got != nil {
		t.Errorf("Get(%s): refused, but it tells %.40q", short(id), got)
	}
}

func wantBlobs(t testing.TB, c *cache.Cache, want ...api.ID) {
	t.Helper()
	got, err := c.Blobs()
	if err != nil || !slices.Equal(got, want) {
		t.Errorf("Blobs: %s, %v, want %s", short(got...), err, short(want...))
	}
}

func wantTable(t testing.TB, c *cache.Cache, want ...api.Result) {
	t.Helper()
	got, err := c.Table()
	if err != nil || !slices.Equal(got, want) {
		t.Errorf("Table: %s, %v, want %s", told(got...), err, told(want...))
	}
	seq, err := c.All()
	if err != nil || seq == nil {
		t.Fatalf("All: %v", err)
	}
	if got := slices.Collect(seq); !slices.Equal(got, want) {
		t.Errorf("All: %s, want %s", told(got...), told(want...))
	}
}

func wantNoTable(t testing.TB, c *cache.Cache, want api.Errno) {
	t.Helper()
	got, err := c.Table()
	wantFault(t, "Table", err, "cache.table", c.Name(), api.ID{}, want)
	seq, failed := c.All()
	wantFault(t, "All", failed, "cache.all", c.Name(), api.ID{}, want)
	if got != nil || seq != nil {
		t.Errorf("refused, but Table tells %s, and All has %t", told(got...), seq != nil)
	}
}

// layer is Put or Lay.
type layer struct {
	op   string
	call func(c *cache.Cache, data []byte) (api.ID, error)
}

func layers() []layer {
	return []layer{{"cache.put", (*cache.Cache).Put}, {"cache.lay", (*cache.Cache).Lay}}
}

func wantLaid(t testing.TB, l layer, c *cache.Cache, data string) {
	t.Helper()
	id, err := l.call(c, []byte(data))
	if err != nil || id != idOf(c.Width(), data) {
		t.Errorf("%s(%.40q): %s, %v, want %s", l.op, data, short(id), err, short(idOf(c.Width(), data)))
	}
}

func wantNotLaid(t testing.TB, l layer, c *cache.Cache, data string, of api.ID, want api.Errno) {
	t.Helper()
	id, err := l.call(c, []byte(data))
	wantFault(t, fmt.Sprintf("%s(%.40q)", l.op, data), err, l.op, c.Name(), of, want)
	if id != (api.ID{}) {
		t.Errorf("%s(%.40q): refused, but it tells %s", l.op, data, short(id))
	}
}

func wantPut(t testing.TB, c *cache.Cache, data string) {
	t.Helper()
	wantLaid(t, layers()[0], c, data)
}

func wantNoPut(t testing.TB, c *cache.Cache, data string, of api.ID, want api.Errno) {
	t.Helper()
	wantNotLaid(t, layers()[0], c, data, of, want)
}

func wantSet(t testing.TB, c *cache.Cache, r api.Result, of api.ID, want api.Errno) {
	t.Helper()
	wantFault(t, "Set("+told(r)+")", c.Set(r), "cache.set", c.Name(), of, want)
}

func wantDrop(t testing.TB, c *cache.Cache, id api.ID, of api.ID, want api.Errno) {
	t.Helper()
	wantFault(t, "Drop("+short(id)+")", c.Drop(id), "cache.drop", c.Name(), of, want)
}

func wantSwap(t testing.TB, c *cache.Cache, results []api.Result, want api.Errno) {
	t.Helper()
	wantFault(t, "Swap("+told(results...)+")", c.Swap(results), "cache.swap", c.Name(), api.ID{}, want)
}

// wantStrokes asks how many strokes a call has.
func wantStrokes(t testing.TB, what string, d *disk.Disk, want int, call func()) {
	t.Helper()
	before := d.Strokes()
	call()
	if got := d.Strokes() - before; got != want {
		t.Errorf("%s: %d strokes, want %d", what, got, want)
	}
}

// wantNothing asks that a call has changed nothing, not even by a stroke.
func wantNothing(t testing.TB, what string, d *disk.Disk, call func()) {
	t.Helper()
	before, files, row := all(d), d.Files(), rows(d)
	call()
	if all(d) != before || !same(d.Files(), files) || rows(d) != row {
		t.Errorf("%s: %s\nbefore: %s", what, all(d), before)
	}
}
