package bundle_test

import (
	"bytes"
	"errors"
	"fmt"
	"slices"
	"sync"
	"testing"

	"freight/api"
	"freight/bundle"
)

// given is an input of Make whose lists all have spare room, and a copy of all that, room too.
type given struct {
	results, resultsBefore []api.Result
	blobs, blobsBefore     [][]byte
	bytesBefore            [][]byte
}

func giving(results []api.Result, blobs [][]byte) *given {
	g := &given{}
	g.results = append(slices.Clone(results), res(250, api.ID{7}, 9), res(251, api.ID{8}, 9))[:len(results)]
	for _, b := range blobs {
		g.blobs = append(g.blobs, roomy(b, 40, 0xa5))
	}
	g.blobs = append(g.blobs, []byte("behind the list"), nil)[:len(blobs)]
	g.resultsBefore = slices.Clone(g.results[:cap(g.results)])
	g.blobsBefore = slices.Clone(g.blobs[:cap(g.blobs)])
	for _, b := range g.blobsBefore {
		g.bytesBefore = append(g.bytesBefore, bytes.Clone(b[:cap(b)]))
	}
	return g
}

// sameList tells whether two lists are one piece of memory.
func sameList(a, b []byte) bool {
	return len(a) == len(b) && cap(a) == cap(b) && (cap(a) == 0 || &a[:1][0] == &b[:1][0])
}

func (g *given) wantUntouched(t *testing.T, what string) {
	t.Helper()
	if !slices.Equal(g.results[:cap(g.results)], g.resultsBefore) {
		t.Errorf("%s: the results are others", what)
	}
	for i, b := range g.blobs[:cap(g.blobs)] {
		if !sameList(b, g.blobsBefore[i]) || !bytes.Equal(b[:cap(b)], g.bytesBefore[i]) {
			t.Errorf("%s: the blob %d is another", what, i)
		}
	}
}

// inputs are some that Make takes, and some that it refuses.
func inputs() []struct {
	width, size int
	*given
} {
	results, blobs := stock(8)
	falling := []api.Result{res(2, api.ID{}, 0), res(1, api.ID{}, 0)}
	return []struct {
		width, size int
		*given
	}{
		{8, 16, giving(results, blobs)},
		{8, 4096, giving(results, slices.Concat(blobs, blobs))},
		{8, 16, giving(nil, nil)},
		{32, 16, giving(actions(32, api.ID{1}), unlike(64, 100))},
		{0, 16, giving(results, blobs)},
		{8, 16, giving(falling, blobs)},
		{8, 16, giving(results, [][]byte{times(4097, 'q'), nil})},
		{1, 16, giving(results, clashing(noise(), 9, 4, 200))},
		{32, 16, giving(results, unlike(65, 9))},
		{32, 16, giving(results, unlike(17, 4096))},
	}
}

func TestP12_8_MakeTouchesNothing(t *testing.T) {
	for i, in := range inputs() {
		data, _ := bundle.Make(in.width, in.results, in.blobs, in.size)
		in.wantUntouched(t, fmt.Sprint("input ", i))
		fill(data, 0x5a)
		in.wantUntouched(t, fmt.Sprint("input ", i, ", the answer written over"))
		_ = append(data, "more"...)
		in.wantUntouched(t, fmt.Sprint("input ", i, ", the answer grown"))
	}
}

func TestP12_8_MakeKeepsNothing(t *testing.T) {
	for i, in := range inputs() {
		want, errno, id := makeByWords(in.width, in.results, in.blobs, in.size)
		data, err := bundle.Make(in.width, in.results, in.blobs, in.size)
		other, _ := bundle.Make(in.width, in.results, in.blobs, in.size)
		fill(other, 0x77)
		for _, b := range in.blobs[:cap(in.blobs)] {
			fill(b, 0x33)
		}
		fill(in.blobs, []byte("other"))
		fill(in.results, res(9, api.ID{9}, 9))
		wantFault(t, fmt.Sprint("input ", i), err, "bundle.make", errno, id)
		if !bytes.Equal(data, want) {
			t.Errorf("input %d: written over behind the call: other bytes", i)
		}
	}
}

// One list of bytes, or a part of it, may stand for several blobs.
func TestP12_8_BlobsThatShare(t *testing.T) {
	whole := []byte("crate 7 of 31, bay 2")
	before := bytes.Clone(whole)
	blobs := [][]byte{whole, whole[:5], whole[3:9], whole[5:5], whole[:5], whole[15:]}
	wantMake(t, "parts of one list", 32, nil, blobs, 16)
	if !bytes.Equal(whole, before) {
		t.Errorf("the list is another: %q", whole)
	}
}

// wipe writes over all lists of a face, and over their room.
func wipe(face api.Face) {
	fill(face.Results, res(77, api.ID{77}, 77))
	fill(face.Blobs, api.Place{ID: api.ID{77}, At: -77, N: -77})
	fill(face.Blocks, api.Block{At: -77, Packed: -77, Raw: -77, Sum: -77})
}

// growing appends to all lists of a face.
func growing(face api.Face) {
	_ = append(face.Results, res(78, api.ID{78}, 78))
	_ = append(face.Blobs, api.Place{At: 78})
	_ = append(face.Blocks, api.Block{At: 78})
}

// readers are the three calls that tell a face of bytes.
func readers() map[string]func(data []byte, width int) (api.Face, error) {
	return map[string]func(data []byte, width int) (api.Face, error){
		"Look": func(data []byte, width int) (api.Face, error) {
			return bundle.Look(len(data), func(at, n int) ([]byte, error) { return data[at : at+n], nil }, width)
		},
		"Parse":  bundle.Parse,
		"Verify": bundle.Verify,
	}
}

func TestP12_8_BytesAreUntouchedAndNotKept(t *testing.T) {
	for what, read := range readers() {
		for _, data := range [][]byte{stocked(8, 16).bytes(), draftOf(8, nil, nil, 16).bytes(), times(200, 3), nil, stocked(7, 16).bytes()} {
			list := roomy(data, 300, 0xa5)
			before := bytes.Clone(list[:cap(list)])
			face, err := read(list, 8)
			other, _ := read(list, 8)
			want, _, _ := lookByWords(data, 8)
			if !bytes.Equal(list[:cap(list)], before) {
				t.Errorf("%s: the bytes are others", what)
			}
			wipe(other)
			growing(other)
			if !bytes.Equal(list[:cap(list)], before) {
				t.Errorf("%s: the bytes are others, the face written over", what)
			}
			fill(list, 0x77)
			if !likeFace(face, want) {
				t.Errorf("%s: the face hangs on the bytes, or on another face: %v", what, err)
			}
		}
	}
}

// What read answers is handed in, too: not changed, not kept, whatever stands behind its length.
func TestP12_8_WhatReadAnswers(t *testing.T) {
	data := stocked(8, 16).bytes()
	want, _, _ := lookByWords(data, 8)
	var answered, before [][]byte
	face, err := bundle.Look(len(data), func(at, n int) ([]byte, error) {
		piece := roomy(data[at:at+n], 100, 0xa5)
		answered, before = append(answered, piece), append(before, bytes.Clone(piece[:cap(piece)]))
		return piece, nil
	}, 8)
	for i, piece := range answered {
		if !bytes.Equal(piece[:cap(piece)], before[i]) {
			t.Errorf("answer %d is another", i)
		}
		fill(piece, 0x77)
	}
	if err != nil || !likeFace(face, want) {
		t.Errorf("the face hangs on what read answered: %v", err)
	}
	wipe(face)
	for i, piece := range answered {
		if !bytes.Equal(piece[:cap(piece)], times(cap(piece), 0x77)) {
			t.Errorf("answer %d hangs on the face", i)
		}
	}
}

// A read that answers one and the same memory each time, written over by the next call.
func TestP12_8_AReadWithOneBuffer(t *testing.T) {
	for _, d := range []*draft{stocked(8, 16), stocked(8, 64), draftOf(8, actions(32, api.ID{5}), nil, 16)} {
		data := d.bytes()
		buffer := make([]byte, 2*len(data))
		want, _, _ := lookByWords(data, 8)
		face, err := bundle.Look(len(data), func(at, n int) ([]byte, error) {
			fill(buffer, 0xee)
			copy(buffer, data[at:at+n])
			return buffer[:n], nil
		}, 8)
		fill(buffer, 0x77)
		if err != nil || !likeFace(face, want) {
			t.Errorf("one buffer: %s, %v", shown(face), err)
		}
	}
}

// The fault that read answers stays its own: what becomes of it later is not seen, and it is not changed.
func TestP12_8_TheFaultOfRead(t *testing.T) {
	theirs := &api.Fault{Op: "disk.read", Name: "f", ID: api.ID{4}, Err: api.ErrNone}
	before := *theirs
	_, err := bundle.Look(100, func(at, n int) ([]byte, error) { return nil, theirs }, 8)
	if *theirs != before {
		t.Errorf("the fault is another: %+v", *theirs)
	}
	*theirs = api.Fault{Op: "x", Name: "x", ID: api.ID{5}, Err: api.ErrFull}
	wantFault(t, "written over", err, "bundle.look", api.ErrNone, api.ID{})
	err.(*api.Fault).Op = "y"
	if theirs.Op != "x" {
		t.Error("the fault of read is the fault of Look")
	}
}

// It is asked within the call alone.
func TestP12_8_ReadIsNotKept(t *testing.T) {
	data := stocked(8, 16).bytes()
	over := false
	face, err := bundle.Look(len(data), func(at, n int) ([]byte, error) {
		if over {
			t.Error("asked behind the call")
		}
		return data[at : at+n], nil
	}, 8)
	over = true
	again, failed := bundle.Parse(data, 8)
	if err != nil || failed != nil || !likeFace(face, again) {
		t.Errorf("%v, %v", err, failed)
	}
}

// Two answers share nothing, nor do the lists of one.
func TestP12_8_FacesAreApart(t *testing.T) {
	data := stocked(8, 16).bytes()
	want, _, _ := lookByWords(data, 8)
	for what, read := range readers() {
		one, _ := read(data, 8)
		two, _ := read(data, 8)
		wipe(one)
		growing(one)
		if !likeFace(two, want) {
			t.Errorf("%s: two faces share memory", what)
		}
		fill(two.Results, res(1, api.ID{}, 1))
		if !slices.Equal(two.Blobs, want.Blobs) || !slices.Equal(two.Blocks, want.Blocks) {
			t.Errorf("%s: the lists of a face share memory", what)
		}
	}
}

// W2: nothing is kept from call to call.
func TestW2_TheSameEachTime(t *testing.T) {
	results, blobs := stock(8)
	good := stocked(8, 16).bytes()
	bad := bytes.Clone(good)
	bad[8] ^= 1
	for range 5 {
		wantMake(t, "once more", 8, results, blobs, 16)
		wantByWords(t, "good", good, 8)
		wantByWords(t, "bad", bad, 8)
		wantNoMake(t, "refused", 8, results, [][]byte{times(5000, 1)}, 16, api.ErrLong, api.ID{})
		wantByWords(t, "short", good[:50], 8)
	}
}

func TestW2_ByManyAtOnce(t *testing.T) {
	results, blobs := stock(8)
	good := stocked(8, 16).bytes()
	want, _, _ := lookByWords(good, 8)
	var all sync.WaitGroup
	wrong := make([]string, 16)
	for i := range wrong {
		all.Go(func() {
			for range 20 {
				data, err := bundle.Make(8, results, blobs, 16)
				if err != nil || !bytes.Equal(data, good) {
					wrong[i] = fmt.Sprint("Make: ", err)
				}
				if face, err := bundle.Verify(good, 8); err != nil || !likeFace(face, want) {
					wrong[i] = fmt.Sprint("Verify: ", err)
				}
			}
		})
	}
	all.Wait()
	if slices.ContainsFunc(wrong, func(s string) bool { return s != "" }) {
		t.Errorf("one of many: %q", wrong)
	}
}

// A read may itself look at bundles.
func TestW2_CallsWithinCalls(t *testing.T) {
	outer, inner := stocked(8, 16).bytes(), stocked(8, 64).bytes()
	want, _, _ := lookByWords(outer, 8)
	face, err := bundle.Look(len(outer), func(at, n int) ([]byte, error) {
		if _, err := bundle.Verify(inner, 8); err != nil {
			return nil, err
		}
		return outer[at : at+n], nil
	}, 8)
	if err != nil || !likeFace(face, want) {
		t.Errorf("%s, %v", shown(face), err)
	}
}

// W5: a nil list and an empty one are the same.
func TestW5_NilAndEmpty(t *testing.T) {
	for _, size := range []int{15, 16} {
		for _, width := range []int{0, 32} {
			one, err := bundle.Make(width, nil, nil, size)
			other, failed := bundle.Make(width, []api.Result{}, [][]byte{}, size)
			if !bytes.Equal(one, other) || api.Code(err) != api.Code(failed) {
				t.Errorf("nil and empty, width %d, size %d: %v, %v", width, size, err, failed)
			}
		}
	}
	one, err := bundle.Make(32, nil, [][]byte{nil}, 16)
	other, failed := bundle.Make(32, nil, [][]byte{{}}, 16)
	both, _ := bundle.Make(32, nil, [][]byte{{}, nil}, 16)
	if err != nil || failed != nil || !bytes.Equal(one, other) || !bytes.Equal(one, both) {
		t.Errorf("a nil blob and an empty one: %v, %v", err, failed)
	}
	for what, read := range readers() {
		_, err := read(nil, 32)
		_, failed := read([]byte{}, 32)
		if !errors.Is(err, api.ErrBundle) || !errors.Is(failed, api.ErrBundle) {
			t.Errorf("%s of nil and empty: %v, %v", what, err, failed)
		}
	}
}
