package bundle_test

import (
	"bytes"
	"encoding/binary"
	"errors"
	"fmt"
	"math"
	"math/rand/v2"
	"slices"
	"testing"

	"freight/api"
	"freight/bundle"
	"freight/tree"
)

// noise is the same row of numbers in every run.
func noise() *rand.Rand { return rand.New(rand.NewPCG(12, 65536)) }

func times(n int, b byte) []byte { return bytes.Repeat([]byte{b}, n) }

// letters are n bytes of so many kinds.
func letters(r *rand.Rand, n, kinds int) []byte {
	data := make([]byte, n)
	for i := range data {
		data[i] = byte(r.IntN(kinds))
	}
	return data
}

// unlike are n blobs of so many bytes, at least 2, each another; 16 bytes side by side do not pack.
func unlike(n, size int) [][]byte {
	blobs := make([][]byte, n)
	for i := range blobs {
		blobs[i] = make([]byte, size)
		for k := range blobs[i] {
			blobs[i][k] = byte(17*k + k/16 + 5*i)
		}
		if size >= 2 {
			blobs[i][0], blobs[i][1] = byte(i), byte(i>>8)+100
		}
	}
	return blobs
}

func res(action byte, root api.ID, code int) api.Result {
	return api.Result{Action: api.ID{action}, Root: root, Code: code}
}

// actions are n results by rising actions.
func actions(n int, root api.ID) []api.Result {
	var results []api.Result
	for i := range n {
		results = append(results, res(byte(i+1), root, i%256))
	}
	return results
}

func file(name string, id api.ID) api.Entry {
	return api.Entry{Name: name, Kind: api.KindFile, ID: id}
}

func folder(name string, id api.ID) api.Entry {
	return api.Entry{Name: name, Kind: api.KindFolder, ID: id}
}

func treeOf(entries ...api.Entry) []byte {
	data, errno := tree.Encode(entries)
	if errno != api.OK {
		panic(errno)
	}
	return data
}

// stock is a whole need: two results whose trees have files and a folder, and the blobs of these.
func stock(width int) ([]api.Result, [][]byte) {
	crate, pallet, none := []byte("crate 7 of 31, bay 2"), times(200, 'p'), []byte{}
	inner := treeOf(file("empty", idOf(width, none)), file("pallet", idOf(width, pallet)))
	outer := treeOf(file("crate", idOf(width, crate)), folder("inner", idOf(width, inner)))
	results := []api.Result{res(3, idOf(width, outer), 7), res(5, idOf(width, inner), 255)}
	return results, [][]byte{crate, pallet, none, inner, outer}
}

// chain is n trees, each a folder of the one ahead of it, the root first.
func chain(width, n int) [][]byte {
	trees := [][]byte{treeOf()}
	for len(trees) < n {
		trees = append(trees, treeOf(folder("x", idOf(width, trees[len(trees)-1]))))
	}
	slices.Reverse(trees)
	return trees
}

// widths are those at the edges, and some between them; of them all stock has no clash.
func widths() []int { return []int{2, 3, 8, 31, 32} }

func noWidths() []int {
	return []int{math.MinInt, -32, -1, 0, 33, 34, 255, 256 + 32, math.MaxInt}
}

func noSizes() []int {
	return []int{math.MinInt, -16, -1, 0, 1, 15, 4097, 65536 + 16, math.MaxInt}
}

// draft is a bundle that can be made wrong anywhere; all that is not said to be wrong is as it must be.
type draft struct {
	head                               []byte
	blocks                             []byte
	width                              int
	results                            []api.Result
	places                             []api.Place
	index                              []api.Block
	saysResults, saysBlobs, saysBlocks int // how many more there are said to be
	entriesMore, indexMore             int // bytes behind these parts; below 0: as many are cut off
	entriesEnd                         int // cut here, if above 0
	letters                            string
	turns                              []func(n *[7]int) // of the trailer's numbers, behind all else
}

// draftOf is the bundle of these blobs, which have no clash.
func draftOf(width int, results []api.Result, blobs [][]byte, size int) *draft {
	places, row := rowOf(width, blobs)
	packed, blocks := packedOf(row, size)
	return &draft{head: headOf(width, size), blocks: packed, width: width, results: slices.Clone(results), places: places, index: blocks, letters: "trf"}
}

func (d *draft) parts() parts {
	p := parts{head: d.head, blocks: d.blocks}
	p.entries = entriesOf(d.width, d.results, len(d.results)+d.saysResults, d.places, len(d.places)+d.saysBlobs)
	p.entries = longer(p.entries, d.entriesMore)
	if d.entriesEnd > 0 {
		p.entries = p.entries[:d.entriesEnd]
	}
	p.index = longer(indexOf(d.index, len(d.index)+d.saysBlocks), d.indexMore)
	return p
}

func (d *draft) bytes() []byte {
	p := d.parts()
	n := p.numbers()
	for _, turn := range d.turns {
		turn(&n)
	}
	return p.sealed(n, d.letters)
}

// longer has so many bytes more, or fewer.
func longer(data []byte, n int) []byte {
	if n < 0 {
		return data[:max(0, len(data)+n)]
	}
	return append(data, make([]byte, n)...)
}

// stocked is a draft of stock.
func stocked(width, size int) *draft {
	results, blobs := stock(width)
	return draftOf(width, results, blobs, size)
}

// numbersOf are those of a bundle's trailer.
func numbersOf(data []byte) [7]int {
	var n [7]int
	for i := range n {
		n[i] = int(binary.BigEndian.Uint32(data[len(data)-31+4*i:]))
	}
	return n
}

func mustMake(t testing.TB, width int, results []api.Result, blobs [][]byte, size int) []byte {
	t.Helper()
	data, err := bundle.Make(width, results, blobs, size)
	if err != nil {
		t.Fatalf("Make(%d, %d results, %d blobs, %d): %v", width, len(results), len(blobs), size, err)
	}
	return data
}

// wantFault asks for the fault of that call, id and number, without a name; for nil, if it is OK.
func wantFault(t testing.TB, what string, err error, op string, want api.Errno, id api.ID) {
	t.Helper()
	if want == api.OK {
		if err != nil {
			t.Errorf("%s: %v, want OK", what, err)
		}
		return
	}
	fault, is := err.(*api.Fault)
	if !is || fault == nil {
		t.Errorf("%s: %v (%T), want a fault with %d", what, err, err, want)
		return
	}
	var errno api.Errno
	if fault.Op != op || fault.Name != "" || fault.ID != id || api.Code(err) != want || !errors.Is(err, want) || !errors.As(err, &errno) || errno != want {
		t.Errorf("%s: %q %q %x %v, want %q, %x and %d", what, fault.Op, fault.Name, fault.ID[:3], fault.Err, op, id[:3], want)
	}
}

// likeFace holds faces against each other, lists by what stands in them.
func likeFace(a, b api.Face) bool {
	return a.Width == b.Width && a.Size == b.Size && a.Entries == b.Entries && a.Index == b.Index &&
		slices.Equal(a.Results, b.Results) && slices.Equal(a.Blobs, b.Blobs) && slices.Equal(a.Blocks, b.Blocks)
}

func shown(f api.Face) string {
	return fmt.Sprintf("width %d, size %d, %d results, %d blobs, %d blocks, sums %d %d", f.Width, f.Size, len(f.Results), len(f.Blobs), len(f.Blocks), f.Entries, f.Index)
}

// wantFace asks for that face, or for the refusal, beside which W3 lets nothing stand.
func wantFace(t testing.TB, what string, got api.Face, err error, op string, face api.Face, errno api.Errno, id api.ID) {
	t.Helper()
	wantFault(t, what, err, op, errno, id)
	if errno != api.OK {
		face = api.Face{}
	}
	if !likeFace(got, face) {
		t.Errorf("%s: %s, want %s", what, shown(got), shown(face))
	}
}

// wantMake asks for the bundle, each byte as the words say.
func wantMake(t testing.TB, what string, width int, results []api.Result, blobs [][]byte, size int) {
	t.Helper()
	if errno := wantMakeByWords(t, what, width, results, blobs, size); errno != api.OK {
		t.Errorf("%s: the words say %d", what, errno)
	}
}

// wantMakeByWords asks for what the words say, whatever it is, and tells which error that was.
func wantMakeByWords(t testing.TB, what string, width int, results []api.Result, blobs [][]byte, size int) api.Errno {
	t.Helper()
	got, err := bundle.Make(width, results, blobs, size)
	data, errno, id := makeByWords(width, results, blobs, size)
	wantFault(t, what, err, "bundle.make", errno, id)
	if !bytes.Equal(got, data) {
		t.Errorf("%s: Make(%d, %d results, %d blobs, %d): %d other bytes, want %d", what, width, len(results), len(blobs), size, len(got), len(data))
	}
	return errno
}

func wantNoMake(t testing.TB, what string, width int, results []api.Result, blobs [][]byte, size int, want api.Errno, id api.ID) {
	t.Helper()
	got, err := bundle.Make(width, results, blobs, size)
	wantFault(t, what, err, "bundle.make", want, id)
	if len(got) != 0 {
		t.Errorf("%s: refused, but %d bytes are told", what, len(got))
	}
}

// readOf answers what stands in data, and writes down what it was asked for.
func readOf(data []byte, asked *[][2]int) func(at, n int) ([]byte, error) {
	return func(at, n int) ([]byte, error) {
		*asked = append(*asked, [2]int{at, n})
		if at < 0 || n < 0 || at > len(data) || n > len(data)-at {
			return nil, api.ErrBeyond
		}
		return data[at : at+n], nil
	}
}

// wantLook asks Look for an error, and for just the first reads of these bytes.
func wantLook(t testing.TB, what string, data []byte, width int, want api.Errno, reads int) {
	t.Helper()
	var asked [][2]int
	got, err := bundle.Look(len(data), readOf(data, &asked), width)
	face, errno, all := lookByWords(data, width)
	if errno != want {
		t.Errorf("%s: the words say %d, the test %d", what, errno, want)
	}
	wantFace(t, what, got, err, "bundle.look", face, want, api.ID{})
	if len(asked) != reads || !slices.Equal(asked, all) {
		t.Errorf("%s: asked for %v, want %d of them: %v", what, asked, reads, all)
	}
}

// wantByWords asks all that read a bundle for what the words say of these bytes.
func wantByWords(t testing.TB, what string, data []byte, width int) {
	t.Helper()
	face, errno, all := lookByWords(data, width)
	var asked [][2]int
	got, err := bundle.Look(len(data), readOf(data, &asked), width)
	wantFace(t, what+": Look", got, err, "bundle.look", face, errno, api.ID{})
	if !slices.Equal(asked, all) {
		t.Errorf("%s: asked for %v, want %v", what, asked, all)
	}
	got, err = bundle.Parse(data, width)
	wantFace(t, what+": Parse", got, err, "bundle.parse", face, errno, api.ID{})
	face, errno, id := verifyByWords(data, width)
	got, err = bundle.Verify(data, width)
	wantFace(t, what+": Verify", got, err, "bundle.verify", face, errno, id)
}

func wantVerify(t testing.TB, what string, data []byte, width int, want api.Errno, id api.ID) {
	t.Helper()
	got, err := bundle.Verify(data, width)
	wantFault(t, what, err, "bundle.verify", want, id)
	wantByWords(t, what, data, width)
	if parsed, failed := bundle.Parse(data, width); want == api.OK && (failed != nil || !likeFace(got, parsed)) {
		t.Errorf("%s: Verify tells another face than Parse", what)
	}
}

// roomy is a copy of data with spare room that is full of one byte.
func roomy(data []byte, spare int, fill byte) []byte {
	whole := append(bytes.Clone(data), times(spare, fill)...)
	return whole[:len(data)]
}

// fill writes over a list, and over its room.
func fill[T any](list []T, with T) {
	whole := list[:cap(list)]
	for i := range whole {
		whole[i] = with
	}
}
