package reader_test

import (
	"bytes"
	"crypto/sha256"
	"encoding/binary"
	"errors"
	"fmt"
	"hash/crc32"
	"math/rand/v2"
	"slices"
	"testing"

	"freight/api"
	"freight/bundle"
	"freight/disk"
	"freight/reader"
	"freight/tree"
)

// noise is the same row of numbers in every run.
func noise() *rand.Rand { return rand.New(rand.NewPCG(13, 31)) }

func times(n int, b byte) []byte { return bytes.Repeat([]byte{b}, n) }

// idOf is an id by another hand.
func idOf(width int, data []byte) api.ID {
	full := sha256.Sum256(data)
	clear(full[width:])
	return full
}

func idsOf(width int, blobs [][]byte) []api.ID {
	var ids []api.ID
	for _, b := range blobs {
		ids = append(ids, idOf(width, b))
	}
	return ids
}

func sumOf(data []byte) int { return int(crc32.ChecksumIEEE(data)) }

// near is an id of which one byte is another.
func near(id api.ID, k int) api.ID {
	id[k] ^= 1
	return id
}

// inOrder are blobs of these lengths, of bytes of so many kinds, whose ids rise
// as they stand here. (The first two bytes of each are of any kind.)
func inOrder(kinds int, lens ...int) [][]byte {
	r := noise()
	var blobs [][]byte
	for i, n := range lens {
		least, behind := bucket(i, lens)
		for {
			data := make([]byte, n)
			for k := range data {
				data[k] = byte(r.IntN(256))
				if k > 1 {
					data[k] = byte(r.IntN(kinds))
				}
			}
			if first := int(idOf(1, data)[0]); first >= least && first < behind {
				blobs = append(blobs, data)
				break
			}
		}
	}
	return blobs
}

// bucket is from where on, and below what, the first byte of the i-th id has to
// be: that of no bytes is what it is, the others stand evenly around it.
func bucket(i int, lens []int) (int, int) {
	none := int(idOf(1, nil)[0])
	at := slices.Index(lens, 0)
	switch {
	case at < 0:
		return i * 256 / len(lens), (i + 1) * 256 / len(lens)
	case i < at:
		return i * none / at, (i + 1) * none / at
	case i == at:
		return none, none + 1
	}
	first, count, left := none+1, len(lens)-at-1, 255-none
	return first + (i-at-1)*left/count, first + (i-at)*left/count
}

func res(action byte, root api.ID, code int) api.Result {
	return api.Result{Action: api.ID{action}, Root: root, Code: code}
}

func treeOf(entries ...api.Entry) []byte {
	data, errno := tree.Encode(entries)
	if errno != api.OK {
		panic(errno)
	}
	return data
}

// stock is a whole need: two results whose trees have files and a folder, and
// the blobs of these.
func stock(width int) ([]api.Result, [][]byte) {
	crate, pallet, none := []byte("crate 7 of 31, bay 2"), times(200, 'p'), []byte{}
	inner := treeOf(
		api.Entry{Name: "empty", Kind: api.KindFile, ID: idOf(width, none)},
		api.Entry{Name: "pallet", Kind: api.KindRun, ID: idOf(width, pallet)},
	)
	outer := treeOf(
		api.Entry{Name: "crate", Kind: api.KindFile, ID: idOf(width, crate)},
		api.Entry{Name: "inner", Kind: api.KindFolder, ID: idOf(width, inner)},
	)
	results := []api.Result{res(3, idOf(width, outer), 7), res(5, idOf(width, inner), 255)}
	return results, [][]byte{crate, pallet, none, inner, outer}
}

func mustMake(t testing.TB, width int, results []api.Result, blobs [][]byte, size int) []byte {
	t.Helper()
	data, err := bundle.Make(width, results, blobs, size)
	if err != nil {
		t.Fatalf("Make(%d, %d results, %d blobs, %d): %v", width, len(results), len(blobs), size, err)
	}
	return data
}

// stocked is the bundle of stock.
func stocked(t testing.TB, width, size int) []byte {
	t.Helper()
	results, blobs := stock(width)
	return mustMake(t, width, results, blobs, size)
}

func of(name string, data []byte) api.FileBytes { return api.FileBytes{Name: name, Data: data} }

func mustLoad(t testing.TB, files ...api.FileBytes) *disk.Disk {
	t.Helper()
	d, errno := disk.Load(api.MaxRoom, files)
	if errno != api.OK {
		t.Fatalf("no disk: %d", errno)
	}
	return d
}

func mustOpen(t testing.TB, d *disk.Disk, name string, width int) *reader.Reader {
	t.Helper()
	r, err := reader.Open(d, name, width)
	if err != nil || r == nil {
		t.Fatalf("Open(%q, %d): %v, %v", name, width, r, err)
	}
	return r
}

// shelf is a disk with a bundle in f.b, which is open.
type shelf struct {
	disk   *disk.Disk
	data   []byte
	width  int
	reader *reader.Reader
	words  *words
}

func shelve(t testing.TB, width int, data []byte) *shelf {
	t.Helper()
	d := mustLoad(t, of("f.b", data))
	r := mustOpen(t, d, "f.b", width)
	w, errno, _ := openByWords(d, "f.b", width)
	if errno != api.OK {
		t.Fatalf("the words say %d", errno)
	}
	return &shelf{d, data, width, r, w}
}

// shelveBlobs has the bundle of some blobs.
func shelveBlobs(t testing.TB, width, size int, blobs ...[]byte) *shelf {
	t.Helper()
	return shelve(t, width, mustMake(t, width, nil, blobs, size))
}

// turn makes the byte at a place of f.b another, or what it was.
func (s *shelf) turn(at int) {
	data, _ := s.disk.Read("f.b", at, 1)
	s.disk.WriteAt("f.b", at, []byte{data[0] ^ 1})
}

// lay puts other bytes into a file, by hand.
func lay(d *disk.Disk, name string, data []byte) {
	d.Remove(name)
	d.Create(name)
	d.Append(name, data)
}

func powerOff(d *disk.Disk) {
	d.Plan(api.Plan{Off: 1})
	d.SyncNames()
}

// numbersOf are those of a bundle's trailer.
func numbersOf(data []byte) [7]int {
	var n [7]int
	for i := range n {
		n[i] = int(binary.BigEndian.Uint32(data[len(data)-31+4*i:]))
	}
	return n
}

// changed is a bundle of which some bytes are others, the sums of ENTRIES and
// INDEX being as they must be.
func changed(data []byte, change func(data []byte, n [7]int)) []byte {
	data = bytes.Clone(data)
	n := numbersOf(data)
	change(data, n)
	sums := data[len(data)-31:]
	binary.BigEndian.PutUint32(sums[8:], uint32(sumOf(data[n[0]:n[0]+n[1]])))
	binary.BigEndian.PutUint32(sums[20:], uint32(sumOf(data[n[3]:n[3]+n[4]])))
	return data
}

func put2(data []byte, v int) { binary.BigEndian.PutUint16(data, uint16(v)) }
func put4(data []byte, v int) { binary.BigEndian.PutUint32(data, uint32(v)) }

// entry is where the k-th blob of a bundle stands in its ENTRIES.
func entry(data []byte, n [7]int, k int) []byte {
	width := int(data[3])
	results := int(binary.BigEndian.Uint16(data[n[0]:]))
	return data[n[0]+2+65*results+2+k*(width+2):]
}

// withID is a bundle that says another id of its k-th blob.
func withID(data []byte, k int, id api.ID) []byte {
	return changed(data, func(data []byte, n [7]int) { copy(entry(data, n, k)[:data[3]], id[:]) })
}

// withBlock is a bundle that has other packed bytes, as many, in its k-th block,
// and their sum.
func withBlock(data []byte, k, at int, packed []byte) []byte {
	return changed(data, func(data []byte, n [7]int) {
		copy(data[at:], packed)
		put4(data[n[3]+2+8*k+4:], sumOf(packed))
	})
}

// wantFault asks for the fault of that call, name, id and number; for nil, if it
// is OK.
func wantFault(t testing.TB, what string, err error, op, name string, want api.Errno, id api.ID) {
	t.Helper()
	if want == api.OK {
		if err != nil {
			t.Errorf("%s: %v, want OK", what, err)
		}
		return
	}
	fault, is := err.(*api.Fault)
	if !is || fault == nil {
		t.Errorf("%s: %v (%T), want a fault with %d", what, err, err, want)
		return
	}
	var errno api.Errno
	if fault.Op != op || fault.Name != name || fault.ID != id || api.Code(err) != want || !errors.Is(err, want) || !errors.As(err, &errno) || errno != want {
		t.Errorf("%s: %q %q %x %v, want %q %q %x and %d", what, fault.Op, fault.Name, fault.ID[:3], fault.Err, op, name, id[:3], want)
	}
}

// likeFace holds faces against each other, lists by what stands in them.
func likeFace(a, b api.Face) bool {
	return a.Width == b.Width && a.Size == b.Size && a.Entries == b.Entries && a.Index == b.Index &&
		slices.Equal(a.Results, b.Results) && slices.Equal(a.Blobs, b.Blobs) && slices.Equal(a.Blocks, b.Blocks)
}

// untouched is what no call of a Reader may change of a disk.
func untouched(d *disk.Disk) string {
	return fmt.Sprint(d.Strokes(), d.Off(), d.Files(), d.Safe())
}

// wantReads asks for just these spans.
func wantReads(t testing.TB, what string, d *disk.Disk, want []api.Span) {
	t.Helper()
	if got := d.Reads(); !slices.Equal(got, want) {
		t.Errorf("%s: %s was read, want %s", what, spans(got), spans(want))
	}
}

func spans(list []api.Span) string {
	if len(list) > 12 {
		return fmt.Sprint(list[:12], " and ", len(list)-12, " more")
	}
	return fmt.Sprint(list)
}

// wantNoOpen asks Open for that error alone.
func wantNoOpen(t testing.TB, what string, d *disk.Disk, name string, width int, want api.Errno) {
	t.Helper()
	r, err := reader.Open(d, name, width)
	wantFault(t, what, err, "reader.open", name, want, api.ID{})
	if r != nil {
		t.Errorf("%s: a Reader beside an error", what)
	}
}

// wantOpenByWords asks Open for what the words say, with just their reads, and
// without a stroke.
func wantOpenByWords(t testing.TB, what string, d *disk.Disk, name string, width int) (*reader.Reader, *words) {
	t.Helper()
	before := untouched(d)
	w, errno, reads := openByWords(d, name, width)
	d.Look()
	r, err := reader.Open(d, name, width)
	wantFault(t, what, err, "reader.open", name, errno, api.ID{})
	wantReads(t, what, d, reads)
	if (r == nil) != (errno != api.OK) {
		t.Fatalf("%s: %v beside %v", what, r, err)
	}
	if r != nil && (r.Name() != name || !likeFace(r.Face(), w.face)) {
		t.Errorf("%s: %q, %v, want %q, %v", what, r.Name(), r.Face(), name, w.face)
	}
	if untouched(d) != before {
		t.Errorf("%s: the disk is another", what)
	}
	return r, w
}

// wantGetByWords asks Get for what the words say, with just their reads, and
// without a stroke; it tells which error that was.
func wantGetByWords(t testing.TB, what string, r *reader.Reader, w *words, id api.ID) api.Errno {
	t.Helper()
	strokes := w.disk.Strokes()
	data, errno, of, reads := w.get(id)
	w.disk.Look()
	got, err := r.Get(id)
	wantFault(t, what, err, "reader.get", w.name, errno, of)
	wantReads(t, what, w.disk, reads)
	if !bytes.Equal(got, data) {
		t.Errorf("%s: %d other bytes, want %d", what, len(got), len(data))
	}
	if w.disk.Strokes() != strokes {
		t.Errorf("%s: a stroke", what)
	}
	return errno
}

// wantBlobsByWords asks a whole loop for what the words say, with just their
// reads; it tells how many blobs there were.
func wantBlobsByWords(t testing.TB, what string, r *reader.Reader, w *words) int {
	t.Helper()
	told, reads := w.blobs(len(w.face.Blobs) + 1)
	w.disk.Look()
	var got []blob
	for id, data := range r.Blobs() {
		got = append(got, blob{id, string(data)})
	}
	wantReads(t, what, w.disk, reads)
	if !slices.Equal(got, told) {
		t.Errorf("%s: %d blobs, want %d, or others", what, len(got), len(told))
	}
	return len(told)
}

// wantAllByWords asks for each blob, for an id that there is not, and for all.
func wantAllByWords(t testing.TB, what string, r *reader.Reader, w *words) {
	t.Helper()
	for k, place := range w.face.Blobs {
		wantGetByWords(t, fmt.Sprintf("%s: blob %d", what, k), r, w, place.ID)
	}
	wantGetByWords(t, what+": no blob", r, w, api.ID{31: 77})
	wantBlobsByWords(t, what+": all", r, w)
}

// wantLike asks that the shelf's Reader says what the words say.
func (s *shelf) wantLike(t testing.TB, what string) {
	t.Helper()
	wantAllByWords(t, what, s.reader, s.words)
}

// wantGet asks Get for a blob, or for an error with the id that it is said of.
func (s *shelf) wantGet(t testing.TB, what string, id api.ID, want []byte, errno api.Errno, of api.ID) {
	t.Helper()
	got, err := s.reader.Get(id)
	wantFault(t, what, err, "reader.get", "f.b", errno, of)
	if !bytes.Equal(got, want) {
		t.Errorf("%s: %d other bytes, want %d", what, len(got), len(want))
	}
}

// fill writes over a list, and over its room.
func fill[T any](list []T, with T) {
	whole := list[:cap(list)]
	for i := range whole {
		whole[i] = with
	}
}
