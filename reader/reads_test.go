package reader_test

import (
	"slices"
	"testing"

	"freight/api"
	"freight/reader"
)

// partsOf are where the four parts lie that Open reads, in its order.
func partsOf(data []byte) []api.Span {
	n := numbersOf(data)
	return []api.Span{
		{Name: "f.b", At: len(data) - 31, N: 31},
		{Name: "f.b", At: 0, N: 6},
		{Name: "f.b", At: n[0], N: n[1]},
		{Name: "f.b", At: n[3], N: n[4]},
	}
}

func TestP13_6_Open(t *testing.T) {
	for _, b := range bundles(t) {
		d := mustLoad(t, of("f.b", b.data))
		for range 2 {
			d.Look()
			mustOpen(t, d, "f.b", b.width)
			wantReads(t, b.what, d, partsOf(b.data))
		}
	}
}

// Refused at each of the four parts: up to there, and no further.
func TestP13_6_OpenRefused(t *testing.T) {
	met := map[int]bool{}
	for _, x := range refusedByLook(t) {
		d := mustLoad(t, of("f.b", x.data))
		d.Look()
		wantNoOpen(t, x.what, d, "f.b", 8, x.want)
		wantReads(t, x.what, d, partsOf(x.data)[:x.reads])
		met[x.reads] = true
	}
	for reads := 1; reads <= 4; reads++ {
		if !met[reads] {
			t.Errorf("none is refused at part %d", reads)
		}
	}
}

// A block that two blobs share is read for each of them.
func TestP13_6_Gets(t *testing.T) {
	s := shelveStored(t)
	blobs := stored()
	s.disk.Look()
	for _, k := range []int{1, 2, 4, 5, 6, 8, 7, 1} {
		s.wantGet(t, "a blob", idOf(32, blobs[k]), blobs[k], api.OK, api.ID{})
	}
	s.wantGet(t, "no blob", api.ID{9}, nil, api.ErrNoBlob, api.ID{9})
	wantReads(t, "all of them", s.disk, storedSpans([]int{1, 1, 2, 3, 3, 4, 8, 9, 4, 5, 6, 7, 8, 1}))
}

// Behind Look: Open, Gets, loops, in one row.
func TestP13_6_InOneRow(t *testing.T) {
	data := mustMake(t, 32, nil, stored(), 16)
	d := mustLoad(t, of("f.b", data), of("f.c", data))
	d.Look()
	r := mustOpen(t, d, "f.b", 32)
	r.Get(idOf(32, stored()[4]))
	r.Face()
	taken(r.Blobs(), 3)
	r.Name()
	r.Get(idOf(32, stored()[6]))
	taken(r.Blobs(), 1)
	wantReads(t, "in one row", d, slices.Concat(partsOf(data), storedSpans([]int{2, 3, 0, 1, 1, 0})))
}

// Loops one inside the other read each for itself.
func TestP13_6_Loops(t *testing.T) {
	s := shelveStored(t)
	s.disk.Look()
	steps := 0
	for range s.reader.Blobs() {
		taken(s.reader.Blobs(), 2)
		if steps++; steps == 3 {
			break
		}
	}
	wantReads(t, "loops", s.disk, storedSpans([]int{0, 0, 1, 1, 0, 1, 1, 0, 1}))
}

// No byte that is read lies beside the four parts and the blocks of what is
// asked for, though the file be another by then.
func TestP13_6_NothingBeside(t *testing.T) {
	r := noise()
	for range 200 {
		s := shelveStored(t)
		for range r.IntN(4) {
			s.turn(r.IntN(len(s.data)))
		}
		if r.IntN(3) == 0 {
			s.disk.Truncate("f.b", r.IntN(len(s.data)))
		}
		asked := r.IntN(len(stored()))
		s.disk.Look()
		s.reader.Get(idOf(32, stored()[asked]))
		allowed := storedSpans(storedBlocks()[asked])
		if got := s.disk.Reads(); len(got) > len(allowed) || !slices.Equal(got, allowed[:len(got)]) {
			t.Errorf("blob %d: %v was read of %v", asked, got, allowed)
		}
	}
}

// The row of a full bundle is read block by block: 4096 reads of it, each once.
func TestP13_6_AFullRow(t *testing.T) {
	lens := slices.Repeat([]int{4096}, 16)
	s := shelveBlobs(t, 8, 16, inOrder(256, lens...)...)
	s.disk.Look()
	if n := len(taken(s.reader.Blobs(), -1)); n != 16 {
		t.Errorf("%d blobs", n)
	}
	var want []api.Span
	for _, b := range s.words.face.Blocks {
		want = append(want, api.Span{Name: "f.b", At: b.At, N: b.Packed})
	}
	if len(want) != 4096 {
		t.Errorf("%d blocks", len(want))
	}
	wantReads(t, "all of it", s.disk, want)
}

// What is refused by the arguments or the disk reads nothing.
func TestP13_6_NoRead(t *testing.T) {
	s := shelveStored(t)
	s.disk.Look()
	reader.Open(s.disk, "f.b", 0)
	reader.Open(s.disk, "F", 32)
	reader.Open(s.disk, "f.z", 32)
	powerOff(s.disk)
	reader.Open(s.disk, "f.b", 32)
	s.reader.Get(idOf(32, stored()[0]))
	taken(s.reader.Blobs(), -1)
	wantReads(t, "refused", s.disk, nil)
}
