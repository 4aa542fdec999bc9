package plan_test

import (
	"bytes"
	"crypto/sha256"
	"encoding/hex"
	"errors"
	"fmt"
	"math/rand/v2"
	"slices"
	"strings"
	"testing"

	"freight/api"
	"freight/cache"
	"freight/disk"
	"freight/plan"
	"freight/reach"
	"freight/table"
)

// noise is the same row of numbers in every run.
func noise() *rand.Rand { return rand.New(rand.NewPCG(15, 51)) }

func times(n int, text string) string { return strings.Repeat(text, n) }

// idOf is an id by another hand.
func idOf(width int, data string) api.ID {
	full := sha256.Sum256([]byte(data))
	clear(full[width:])
	return full
}

// clash is another row of bytes of a blob's id, in a narrow width.
func clash(width int, blob string) string {
	for i := 0; ; i++ {
		if other := fmt.Sprint("clash ", i); other != blob && idOf(width, other) == idOf(width, blob) {
			return other
		}
	}
}

// longClash is a clash of n bytes.
func longClash(width int, blob string, n int) string {
	for i := 0; ; i++ {
		other := fmt.Sprintf("%0*d", n, i)
		if idOf(width, other) == idOf(width, blob) {
			return other
		}
	}
}

// numbered are n blobs of ids that differ, by rising ids.
func numbered(width, n int) []string {
	var list []string
	seen := map[api.ID]int{}
	for i := 0; len(list) < n; i++ {
		blob := fmt.Sprint("blob ", i)
		if seen[idOf(width, blob)]++; seen[idOf(width, blob)] == 1 {
			list = append(list, blob)
		}
	}
	slices.SortFunc(list, func(a, b string) int {
		one, other := idOf(width, a), idOf(width, b)
		return bytes.Compare(one[:], other[:])
	})
	return list
}

// idsOf are the ids of blobs, in the order of the blobs.
func idsOf(width int, blobs ...string) []api.ID {
	var ids []api.ID
	for _, b := range blobs {
		ids = append(ids, idOf(width, b))
	}
	return ids
}

func rising(ids []api.ID) []api.ID {
	sorted := slices.Clone(ids)
	slices.SortFunc(sorted, func(a, b api.ID) int { return bytes.Compare(a[:], b[:]) })
	return sorted
}

// mapOf is a source of blobs by their ids, and these ids, rising.
func mapOf(width int, blobs ...string) (reach.Map, []api.ID) {
	m := reach.Map{}
	for _, b := range blobs {
		m[idOf(width, b)] = []byte(b)
	}
	return m, rising(idsOf(width, blobs...))
}

// act is the action whose first byte that is.
func act(first byte) api.ID { return api.ID{first} }

// res is a result whose root no blob has: of what a result needs nothing is asked.
func res(action byte, root byte, code int) api.Result {
	return api.Result{Action: act(action), Root: api.ID{31: root}, Code: code}
}

// resultsFrom are n results of rising actions, the first of them with that byte.
func resultsFrom(first byte, n int) []api.Result {
	var list []api.Result
	for i := range n {
		list = append(list, res(first+byte(i), 1, i))
	}
	return list
}

func policies() []int { return []int{api.Keep, api.Take, api.Fail} }

// blobName is the name of a blob's file in a cache.
func blobName(name string, id api.ID) string {
	return "c." + name + ".b." + hex.EncodeToString(id[:])
}

func of(name, data string) api.FileBytes { return api.FileBytes{Name: name, Data: []byte(data)} }

func tableForm(results ...api.Result) string {
	data, errno := table.Encode(results)
	if errno != api.OK {
		panic(fmt.Sprintf("no table of %d results: %d", len(results), errno))
	}
	return string(data)
}

// store is a cache on a disk.
type store struct {
	disk  *disk.Disk
	cache *cache.Cache
	name  string
	width int
}

// stored is the cache a of some blobs and results, with other files beside, on a
// disk with room. All of it is safe.
func stored(t testing.TB, width int, blobs []string, results []api.Result, beside ...api.FileBytes) *store {
	t.Helper()
	files := slices.Clone(beside)
	for _, b := range blobs {
		files = append(files, of(blobName("a", idOf(width, b)), b))
	}
	if len(results) > 0 {
		files = append(files, of("c.a.table", tableForm(results...)))
	}
	d, errno := disk.Load(api.MaxRoom, files)
	if errno != api.OK {
		t.Fatalf("no disk: %d", errno)
	}
	return opened(t, d, "a", width)
}

// opened is the cache of that name on a disk.
func opened(t testing.TB, d *disk.Disk, name string, width int) *store {
	t.Helper()
	c, err := cache.Open(d, name, width)
	if err != nil {
		t.Fatalf("Open(%q, %d): %v", name, width, err)
	}
	return &store{d, c, name, width}
}

// twin is the same cache on a twin of its disk.
func (s *store) twin(t testing.TB) *store {
	t.Helper()
	return opened(t, s.disk.Twin(), s.name, s.width)
}

// hand lays a file by hand, safe.
func (s *store) hand(t testing.TB, name, data string) {
	t.Helper()
	s.disk.Remove(name)
	for _, errno := range []api.Errno{s.disk.Create(name), s.disk.Append(name, []byte(data)), s.disk.Sync(name), s.disk.SyncNames()} {
		if errno != api.OK {
			t.Fatalf("by hand: %s: %d", name, errno)
		}
	}
}

// damage makes the file of a blob damage.
func (s *store) damage(t testing.TB, id api.ID, other string) {
	t.Helper()
	if len(other) <= api.MaxBlob && idOf(s.width, other) == id {
		t.Fatal("no damage")
	}
	s.hand(t, blobName(s.name, id), other)
}

// darken is the power's end.
func (s *store) darken(t testing.TB) {
	t.Helper()
	s.disk.Plan(api.Plan{Off: 1})
	if s.disk.SyncNames() != api.ErrOff || !s.disk.Off() {
		t.Fatal("its power is on")
	}
}

// sameFiles tells whether files are alike, byte by byte.
func sameFiles(one, other []api.FileBytes) bool {
	return slices.EqualFunc(one, other, func(a, b api.FileBytes) bool { return a.Name == b.Name && bytes.Equal(a.Data, b.Data) })
}

// show: files in words.
func show(files []api.FileBytes) string {
	var words []string
	for _, f := range files {
		words = append(words, fmt.Sprintf("%.20s=%.10q/%d", f.Name, f.Data, len(f.Data)))
	}
	return strings.Join(words, " ")
}

// wantSameDisk asks that two disks tell the same of themselves.
func wantSameDisk(t testing.TB, what string, got, want *disk.Disk) {
	t.Helper()
	if got.Off() != want.Off() || got.Strokes() != want.Strokes() {
		t.Errorf("%s: off %t, %d strokes, want %t and %d", what, got.Off(), got.Strokes(), want.Off(), want.Strokes())
	}
	if !sameFiles(got.Files(), want.Files()) || !sameFiles(got.Safe(), want.Safe()) {
		t.Errorf("%s: %s; safe %s\nwant: %s; safe %s", what, show(got.Files()), show(got.Safe()), show(want.Files()), show(want.Safe()))
	}
}

// wantFault asks for the fault of Of, of that name, id and number; for nil, if it
// is OK.
func wantFault(t testing.TB, what string, err error, name string, want api.Errno, id api.ID) {
	t.Helper()
	if want == api.OK {
		if err != nil {
			t.Errorf("%s: %v, want OK", what, err)
		}
		return
	}
	fault, is := err.(*api.Fault)
	if !is || fault == nil {
		t.Errorf("%s: %v (%T), want a fault with %d", what, err, err, want)
		return
	}
	var errno api.Errno
	if fault.Op != "plan.of" || fault.Name != name || fault.ID != id || api.Code(err) != want || !errors.Is(err, want) || !errors.As(err, &errno) || errno != want {
		t.Errorf("%s: %q %q %x %v, want plan.of %q %x and %d", what, fault.Op, fault.Name, fault.ID[:3], fault.Err, name, id[:3], want)
	}
}

// asked is what is handed in beside the cache.
type asked struct {
	source  reach.Source
	results []api.Result
	need    []api.ID
	policy  int
}

func (s *store) ask(a asked) (api.Change, error) {
	return plan.Of(s.cache, a.source, a.results, a.need, a.policy)
}

// wantRefused asks for that error, with nothing told and nothing changed.
func (s *store) wantRefused(t testing.TB, what string, a asked, want api.Errno, id api.ID) {
	t.Helper()
	before := s.disk.Twin()
	change, err := s.ask(a)
	wantFault(t, what, err, s.name, want, id)
	if change.Adds != nil || change.Table != nil {
		t.Errorf("%s: %v beside an error", what, change)
	}
	wantSameDisk(t, what, s.disk, before)
}

// wantChange asks for that answer, with nothing changed.
func (s *store) wantChange(t testing.TB, what string, a asked, adds []api.ID, table []api.Result) {
	t.Helper()
	before := s.disk.Twin()
	change, err := s.ask(a)
	wantFault(t, what, err, s.name, api.OK, api.ID{})
	if !slices.Equal(change.Adds, adds) || !slices.Equal(change.Table, table) {
		t.Errorf("%s: %s and %v, want %s and %v", what, told(change.Adds), change.Table, told(adds), table)
	}
	wantSameDisk(t, what, s.disk, before)
}

// wantAsTheWordsSay asks for what the second reading says; it tells which error
// that was.
func (s *store) wantAsTheWordsSay(t testing.TB, what string, a asked) api.Errno {
	t.Helper()
	want := ofByWords(s.disk, s.name, s.width, a)
	if want.code != api.OK {
		s.wantRefused(t, what, a, want.code, want.id)
		return want.code
	}
	s.wantChange(t, what, a, want.adds, want.table)
	return api.OK
}

// told: ids in words.
func told(ids []api.ID) string {
	var words []string
	for _, id := range ids {
		words = append(words, fmt.Sprintf("%x", id[:3]))
	}
	return "(" + strings.Join(words, " ") + ")"
}

// fill writes over a list, and over its room.
func fill[T any](list []T, with T) {
	whole := list[:cap(list)]
	for i := range whole {
		whole[i] = with
	}
}

// spare is a list with room behind its end that is written full.
func spare[T any](list []T, with T) []T {
	whole := append(slices.Clone(list), with, with, with)
	return whole[:len(list):len(whole)]
}

// Sources.

// listener keeps what a source is asked for.
type listener struct {
	inner reach.Source
	heard []api.ID
}

func (l *listener) Get(id api.ID) ([]byte, error) {
	l.heard = append(l.heard, id)
	return l.inner.Get(id)
}

// failing refuses some ids.
type failing struct {
	inner reach.Source
	errs  map[api.ID]error
}

func (f failing) Get(id api.ID) ([]byte, error) {
	if err, is := f.errs[id]; is {
		return []byte("bytes beside an error"), err
	}
	return f.inner.Get(id)
}

// refusing is a source that refuses these ids with one error.
func refusing(inner reach.Source, err error, ids ...api.ID) failing {
	f := failing{inner, map[api.ID]error{}}
	for _, id := range ids {
		f.errs[id] = err
	}
	return f
}

// lending hands out its own memory.
type lending map[api.ID][]byte

func (l lending) Get(id api.ID) ([]byte, error) {
	data, is := l[id]
	if !is {
		return nil, api.ErrNoBlob
	}
	return data, nil
}
