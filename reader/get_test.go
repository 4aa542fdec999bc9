package reader_test

import (
	"errors"
	"fmt"
	"slices"
	"testing"

	"freight/api"
	"freight/reach"
	"freight/reader"
)

// stored are blobs whose blocks of 16 bytes do not pack: the block k begins at
// 6 + 16*k in the file. In the row they lie so:
//
//	blob    0      1       2       3       4       5       6   7        8
//	bytes   0..15  16..20  21..31  32..32  33..60  61..76  -   77..140  141..150
//	blocks  0      1       1       2       2..3    3..4    -   4..8     8..9
func stored() [][]byte { return inOrder(256, 16, 5, 11, 1, 28, 16, 0, 64, 10) }

func storedBlocks() [][]int {
	return [][]int{{0}, {1}, {1}, {2}, {2, 3}, {3, 4}, {}, {4, 5, 6, 7, 8}, {8, 9}}
}

// storedSpan is where a block of them lies.
func storedSpan(k int) api.Span {
	if k == 9 {
		return api.Span{Name: "f.b", At: 6 + 16*9, N: 7}
	}
	return api.Span{Name: "f.b", At: 6 + 16*k, N: 16}
}

func storedSpans(blocks []int) []api.Span {
	var list []api.Span
	for _, k := range blocks {
		list = append(list, storedSpan(k))
	}
	return list
}

func shelveStored(t testing.TB) *shelf {
	t.Helper()
	s := shelveBlobs(t, 32, 16, stored()...)
	for k, b := range s.words.face.Blocks {
		if span := storedSpan(k); b.At != span.At || b.Packed != span.N {
			t.Fatalf("block %d: %v", k, b)
		}
	}
	if len(s.words.face.Blocks) != 10 || s.words.face.Blobs[6].N != 0 {
		t.Fatalf("%v", s.words.face)
	}
	return s
}

func TestP13_3_JustTheBlocksOfTheBlob(t *testing.T) {
	s := shelveStored(t)
	blobs, blocks := stored(), storedBlocks()
	for _, k := range []int{0, 1, 2, 3, 4, 5, 6, 7, 8, 8, 0, 4, 6, 1} {
		s.disk.Look()
		s.wantGet(t, fmt.Sprint("blob ", k), idOf(32, blobs[k]), blobs[k], api.OK, api.ID{})
		wantReads(t, fmt.Sprint("blob ", k), s.disk, storedSpans(blocks[k]))
	}
}

func TestP13_3_AllBundles(t *testing.T) {
	for _, b := range bundles(t) {
		s := shelve(t, b.width, b.data)
		s.wantLike(t, b.what)
	}
}

// Bytes that pack well lie in blocks of unlike lengths.
func TestP13_3_PackedBlocks(t *testing.T) {
	for _, size := range []int{16, 31, 128, 4096} {
		blobs := inOrder(2, 700, 1, 4096, 90, 128, 0, 300)
		s := shelveBlobs(t, 8, size, blobs...)
		packed := 0
		for _, b := range s.words.face.Blocks {
			packed += b.Raw - b.Packed
		}
		if packed == 0 {
			t.Fatalf("size %d: nothing is packed", size)
		}
		for k, id := range idsOf(8, blobs) {
			s.wantGet(t, fmt.Sprintf("size %d, blob %d", size, k), id, blobs[k], api.OK, api.ID{})
		}
		s.wantLike(t, fmt.Sprint("size ", size))
	}
}

// Drawn lengths, sizes and kinds of bytes.
func TestP13_3_Drawn(t *testing.T) {
	r := noise()
	for i := range 300 {
		var lens []int
		for range r.IntN(9) {
			lens = append(lens, 1+r.IntN([]int{4, 40, 400, 4096}[r.IntN(4)]))
		}
		if len(lens) > 0 && r.IntN(2) == 0 {
			lens[len(lens)-1] = 0
		}
		size := []int{16, 17, 16 + r.IntN(200), 16 + r.IntN(4081), 4096}[r.IntN(5)]
		kinds := []int{1, 2, 5, 256}[r.IntN(4)]
		blobs := inOrder(kinds, lens...)
		s := shelveBlobs(t, 1+r.IntN(32), size, blobs...)
		what := fmt.Sprintf("draw %d: %v, size %d, %d kinds", i, lens, size, kinds)
		for k, id := range idsOf(s.width, blobs) {
			s.wantGet(t, what, id, blobs[k], api.OK, api.ID{})
		}
		s.wantLike(t, what)
	}
}

// otherIDs are ids of which the bundle says nothing.
func otherIDs(face api.Face) []api.ID {
	ids := []api.ID{{}, {0: 255, 31: 255}, {31: 1}, idOf(32, []byte("not in it"))}
	for _, place := range face.Blobs {
		for k := range place.ID {
			ids = append(ids, near(place.ID, k))
		}
	}
	return slices.DeleteFunc(ids, func(id api.ID) bool {
		return slices.ContainsFunc(face.Blobs, func(p api.Place) bool { return p.ID == id })
	})
}

func TestP13_4_NoBlob(t *testing.T) {
	for _, b := range bundles(t) {
		s := shelve(t, b.width, b.data)
		s.disk.Look()
		for _, id := range otherIDs(s.words.face) {
			s.wantGet(t, b.what, id, nil, api.ErrNoBlob, id)
		}
		wantReads(t, b.what, s.disk, nil)
	}
}

// An id whose bytes behind the width are no noughts is another one.
func TestP13_4_BytesBehindTheWidth(t *testing.T) {
	_, blobs := stock(3)
	s := shelveBlobs(t, 3, 16, blobs...)
	for _, b := range blobs {
		full := idOf(32, b)
		s.wantGet(t, "the whole digest", full, nil, api.ErrNoBlob, full)
		longer := idOf(4, b)
		if longer != idOf(3, b) {
			s.wantGet(t, "one byte more", longer, nil, api.ErrNoBlob, longer)
		}
		s.wantGet(t, "its id", idOf(3, b), b, api.OK, api.ID{})
	}
}

func TestP13_4_NoReader(t *testing.T) {
	var none *reader.Reader
	for what, r := range map[string]*reader.Reader{"nil": none, "zero": {}} {
		for _, id := range []api.ID{{}, {9}, idOf(32, nil)} {
			data, err := r.Get(id)
			wantFault(t, what, err, "reader.get", "", api.ErrOff, api.ID{})
			if len(data) != 0 {
				t.Errorf("%s: bytes beside an error", what)
			}
		}
	}
}

// ErrOff is ahead of all else, whatever else is wrong.
func TestP13_4_OffIsFirst(t *testing.T) {
	for _, spoil := range []func(s *shelf){
		func(s *shelf) {},
		func(s *shelf) { s.disk.Remove("f.b") },
		func(s *shelf) { s.disk.Truncate("f.b", 20) },
		func(s *shelf) { lay(s.disk, "f.b", times(len(s.data), 0)) },
	} {
		s := shelveStored(t)
		spoil(s)
		powerOff(s.disk)
		s.disk.Look()
		for _, id := range append(idsOf(32, stored()), otherIDs(s.words.face)...) {
			s.wantGet(t, "off", id, nil, api.ErrOff, api.ID{})
		}
		wantReads(t, "off", s.disk, nil)
		s.disk.Crash()
		s.wantLike(t, "on again")
	}
}

// ErrNoBlob is ahead of what the file says.
func TestP13_4_NoBlobIsSecond(t *testing.T) {
	s := shelveStored(t)
	for _, spoil := range []func(){
		func() { s.disk.Truncate("f.b", 0) },
		func() { s.disk.Remove("f.b") },
	} {
		spoil()
		for _, id := range otherIDs(s.words.face) {
			s.wantGet(t, "spoilt", id, nil, api.ErrNoBlob, id)
		}
	}
}

func TestP13_4_Gone(t *testing.T) {
	s := shelveStored(t)
	s.disk.Rename("f.b", "f.c")
	s.disk.Look()
	for k, b := range stored() {
		if len(b) == 0 {
			s.wantGet(t, "no bytes", idOf(32, b), nil, api.OK, api.ID{})
			continue
		}
		s.wantGet(t, fmt.Sprint("gone: blob ", k), idOf(32, b), nil, api.ErrNone, api.ID{})
	}
	wantReads(t, "gone", s.disk, nil)
	s.disk.Rename("f.c", "f.b")
	s.wantLike(t, "back again")
}

// Cut within a block and behind it: block by block, in their order.
func TestP13_4_Cut(t *testing.T) {
	s := shelveStored(t)
	blobs := stored()
	for _, x := range []struct {
		blob, length int
		want         api.Errno
		reads        []int
	}{
		{0, 6 + 16, api.OK, []int{0}},
		{0, 6 + 15, api.ErrBeyond, nil},
		{0, 6, api.ErrBeyond, nil},
		{0, 0, api.ErrBeyond, nil},
		{1, 6 + 31, api.ErrBeyond, nil}, // its own bytes are there, its block is not whole
		{7, 6 + 16*9, api.OK, []int{4, 5, 6, 7, 8}},
		{7, 6 + 16*9 - 1, api.ErrBeyond, []int{4, 5, 6, 7}},
		{7, 6 + 16*8, api.ErrBeyond, []int{4, 5, 6, 7}},
		{7, 6 + 16*8 - 1, api.ErrBeyond, []int{4, 5, 6}},
		{7, 6 + 16*5, api.ErrBeyond, []int{4}},
		{7, 6 + 16*5 - 1, api.ErrBeyond, nil},
		{8, 6 + 16*9 + 7, api.OK, []int{8, 9}},
		{8, 6 + 16*9 + 6, api.ErrBeyond, []int{8}},
		{6, 0, api.OK, nil},
	} {
		what := fmt.Sprintf("blob %d, %d bytes", x.blob, x.length)
		lay(s.disk, "f.b", s.data[:x.length])
		s.disk.Look()
		data, err := s.reader.Get(idOf(32, blobs[x.blob]))
		wantFault(t, what, err, "reader.get", "f.b", x.want, api.ID{})
		wantReads(t, what, s.disk, storedSpans(x.reads))
		if x.want == api.OK && string(data) != string(blobs[x.blob]) || x.want != api.OK && len(data) != 0 {
			t.Errorf("%s: %q", what, data)
		}
	}
}

func TestP13_4_CutAnywhere(t *testing.T) {
	for _, s := range []*shelf{shelveStored(t), shelveBlobs(t, 2, 16, inOrder(2, 50, 16, 1, 90, 0)...)} {
		for length := len(s.data); length >= 0; length-- {
			s.disk.Truncate("f.b", length)
			s.wantLike(t, fmt.Sprint(length, " bytes"))
		}
	}
}

func TestP13_4_EachByteTurned(t *testing.T) {
	for _, s := range []*shelf{shelveStored(t), shelveBlobs(t, 2, 16, inOrder(2, 50, 16, 1, 90, 0)...)} {
		for at := range s.data {
			s.turn(at)
			for k, place := range s.words.face.Blobs {
				what := fmt.Sprintf("byte %d, blob %d", at, k)
				want := api.OK
				if s.covers(place, at) {
					want = api.ErrBlock
				}
				if got := wantGetByWords(t, what, s.reader, s.words, place.ID); got != want {
					t.Errorf("%s: the words say %d, the test %d", what, got, want)
				}
			}
			s.turn(at)
		}
	}
}

// covers tells whether a place of the file lies in a block that the blob has
// bytes of.
func (s *shelf) covers(place api.Place, at int) bool {
	for k, b := range s.words.face.Blocks {
		if at < b.At || at >= b.At+b.Packed {
			continue
		}
		for i := range place.N {
			if (place.At+i)/s.words.face.Size == k {
				return true
			}
		}
	}
	return false
}

// The first block that is refused says which error it is, and no further one is
// read.
func TestP13_4_TheFirstBlockThatIsRefused(t *testing.T) {
	long := stored()[7]
	for _, x := range []struct {
		what          string
		turned, until int
		want          api.Errno
		reads         []int
	}{
		{"the first turned, the second gone", 6 + 16*4, 6 + 16*5, api.ErrBlock, []int{4}},
		{"the second turned, the third cut", 6 + 16*5, 6 + 16*6 + 3, api.ErrBlock, []int{4, 5}},
		{"the last turned and cut", 6 + 16*8, 6 + 16*8 + 3, api.ErrBeyond, []int{4, 5, 6, 7}},
		{"the first cut, where it is turned", 6 + 16*4, 6 + 16*4 + 1, api.ErrBeyond, nil},
		{"the last turned", 6 + 16*8 + 15, 6 + 16*9, api.ErrBlock, []int{4, 5, 6, 7, 8}},
	} {
		s := shelveStored(t)
		s.turn(x.turned)
		s.disk.Truncate("f.b", x.until)
		s.disk.Look()
		s.wantGet(t, x.what, idOf(32, long), nil, x.want, api.ID{})
		wantReads(t, x.what, s.disk, storedSpans(x.reads))
	}
}

// A blob whose blocks are whole and whose id is another.
func TestP13_4_AnotherID(t *testing.T) {
	for _, width := range []int{2, 31, 32} {
		good := mustMake(t, width, nil, stored(), 16)
		for k, b := range stored() {
			id := near(idOf(width, b), width-1)
			s := shelve(t, width, withID(good, k, id))
			s.disk.Look()
			s.wantGet(t, fmt.Sprint("another id: blob ", k), id, nil, api.ErrDigest, id)
			wantReads(t, fmt.Sprint("another id: blob ", k), s.disk, storedSpans(storedBlocks()[k]))
			s.wantGet(t, "its own id", idOf(width, b), nil, api.ErrNoBlob, idOf(width, b))
			s.wantLike(t, fmt.Sprint("another id: blob ", k))
		}
	}
}

// Other bytes in a block whose sum is theirs: each blob that has bytes of it has
// another id, but those whose own bytes are as they were.
func TestP13_4_OtherBytesOfThatSum(t *testing.T) {
	good := mustMake(t, 32, nil, stored(), 16)
	blobs := stored()
	block := slices.Clone(good[6+16*8 : 6+16*9]) // the last 13 bytes of blob 7, the first 3 of blob 8
	block[14] ^= 1
	s := shelve(t, 32, withBlock(good, 8, 6+16*8, block))
	s.wantGet(t, "the first byte that is another", idOf(32, blobs[8]), nil, api.ErrDigest, idOf(32, blobs[8]))
	s.wantGet(t, "its own bytes are whole", idOf(32, blobs[7]), blobs[7], api.OK, api.ID{})
	s.wantLike(t, "other bytes")
	s.turn(6 + 16*9)
	s.wantGet(t, "a block that is refused is ahead of the id", idOf(32, blobs[8]), nil, api.ErrBlock, api.ID{})
}

// Packed bytes that have their sum and do not unpack.
func TestP13_4_DoesNotUnpack(t *testing.T) {
	blobs := inOrder(1, 60, 30, 5)
	good := mustMake(t, 32, nil, blobs, 16)
	first := shelve(t, 32, good).words.face.Blocks[1]
	if first.Packed == first.Raw {
		t.Fatalf("%v is stored", first)
	}
	for _, packed := range [][]byte{times(first.Packed, 0), times(first.Packed, 0xff)} {
		s := shelve(t, 32, withBlock(good, 1, first.At, packed))
		s.wantGet(t, "does not unpack", idOf(32, blobs[0]), nil, api.ErrBlock, api.ID{})
		s.wantGet(t, "beside it", idOf(32, blobs[2]), blobs[2], api.OK, api.ID{})
		s.wantLike(t, "does not unpack")
	}
}

// Of a blob of no bytes nothing is read: the file says nothing of it.
func TestP13_4_NoBytes(t *testing.T) {
	for _, blobs := range [][][]byte{{nil}, inOrder(256, 9, 0), inOrder(256, 0, 9), inOrder(256, 16, 0, 16)} {
		good := mustMake(t, 32, nil, blobs, 16)
		s := shelve(t, 32, good)
		s.disk.Look()
		id := idOf(32, nil)
		s.wantGet(t, "as it was", id, nil, api.OK, api.ID{})
		s.disk.Truncate("f.b", 0)
		s.wantGet(t, "cut", id, nil, api.OK, api.ID{})
		s.disk.Remove("f.b")
		s.wantGet(t, "gone", id, nil, api.OK, api.ID{})
		powerOff(s.disk)
		s.wantGet(t, "off", id, nil, api.ErrOff, api.ID{})
		wantReads(t, "no bytes", s.disk, nil)

		other := near(id, 31)
		k := slices.Index(idsOf(32, blobs), id)
		s = shelve(t, 32, withID(good, k, other))
		s.disk.Look()
		s.wantGet(t, "another id", other, nil, api.ErrDigest, other)
		wantReads(t, "another id", s.disk, nil)
	}
}

// A file that has grown behind its end is read where the index says.
func TestP13_4_Longer(t *testing.T) {
	s := shelveStored(t)
	s.disk.Append("f.b", times(5000, 9))
	for _, b := range stored() {
		s.wantGet(t, "longer", idOf(32, b), b, api.OK, api.ID{})
	}
	s.wantLike(t, "longer")
}

// Head, entries, index and trailer are not looked at again.
func TestP13_4_TheRestSpoilt(t *testing.T) {
	s := shelveStored(t)
	n := numbersOf(s.data)
	s.disk.WriteAt("f.b", 0, times(6, 0))
	s.disk.WriteAt("f.b", n[0], times(len(s.data)-n[0], 0))
	for _, b := range stored() {
		s.wantGet(t, "the rest spoilt", idOf(32, b), b, api.OK, api.ID{})
	}
	s.disk.Truncate("f.b", n[0])
	for _, b := range stored() {
		s.wantGet(t, "the rest cut", idOf(32, b), b, api.OK, api.ID{})
	}
}

// A Reader is a source.
func TestP13_4_ASource(t *testing.T) {
	results, blobs := stock(8)
	s := shelve(t, 8, stocked(t, 8, 16))
	var source reach.Source = s.reader
	need, err := reach.Need(source, results...)
	if err != nil || len(need) != len(blobs) {
		t.Errorf("%v, %v", need, err)
	}
	lacking, err := reach.Lacks(source, append(results, res(9, api.ID{9}, 0))...)
	if err != nil || !slices.Equal(lacking, []api.ID{{9}}) {
		t.Errorf("%v, %v", lacking, err)
	}
	s.turn(s.words.face.Blocks[0].At)
	if _, err := reach.Need(source, results...); !errors.Is(err, api.ErrBlock) {
		t.Errorf("a block turned: %v", err)
	}
	powerOff(s.disk)
	if _, err := reach.Lacks(source, results...); !errors.Is(err, api.ErrOff) {
		t.Errorf("off: %v", err)
	}
	var none *reader.Reader
	if _, err := reach.Need(none, results...); !errors.Is(err, api.ErrOff) {
		t.Errorf("nil: %v", err)
	}
}
