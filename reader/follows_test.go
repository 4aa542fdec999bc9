package reader_test

import (
	"bytes"
	"fmt"
	"math/rand/v2"
	"testing"

	"freight/api"
	"freight/bundle"
	"freight/reader"
)

// drawnNeed is a whole need of drawn blobs: trees that name blobs and trees.
func drawnNeed(r *rand.Rand, width int) ([]api.Result, [][]byte) {
	var blobs [][]byte
	var results []api.Result
	for i := range 1 + r.IntN(4) {
		var entries []api.Entry
		for k := range r.IntN(5) {
			data := make([]byte, r.IntN([]int{1, 30, 600}[r.IntN(3)]+1))
			for j := range data {
				data[j] = byte(r.IntN([]int{2, 256}[r.IntN(2)]))
			}
			blobs = append(blobs, data)
			entries = append(entries, api.Entry{Name: fmt.Sprint("file", k), Kind: api.KindFile, ID: idOf(width, data)})
		}
		if len(results) > 0 {
			entries = append(entries, api.Entry{Name: "folder", Kind: api.KindFolder, ID: results[len(results)-1].Root})
		}
		root := treeOf(entries...)
		blobs = append(blobs, root)
		results = append(results, res(byte(i), idOf(width, root), r.IntN(256)))
	}
	return results, blobs
}

// Of what Verify takes each id has the bytes that were put in, a loop tells them
// all, and every other id is ErrNoBlob.
func TestP13_7_WhatVerifyTakes(t *testing.T) {
	r := noise()
	for i := range 200 {
		width := 6 + r.IntN(27)
		results, blobs := stock(width)
		if i > 0 {
			results, blobs = drawnNeed(r, width)
		}
		data := mustMake(t, width, results, blobs, 16+r.IntN(300))
		if _, err := bundle.Verify(data, width); err != nil {
			t.Fatalf("draw %d: %v", i, err)
		}
		s := shelve(t, width, data)
		ids := map[api.ID]string{}
		for _, b := range blobs {
			ids[idOf(width, b)] = string(b)
			s.wantGet(t, fmt.Sprint("draw ", i), idOf(width, b), b, api.OK, api.ID{})
		}
		told := taken(s.reader.Blobs(), -1)
		for k, b := range told {
			if want, is := ids[b.id]; !is || want != b.data || k > 0 && bytes.Compare(told[k-1].id[:], b.id[:]) >= 0 {
				t.Errorf("draw %d: blob %d of the loop is another", i, k)
			}
		}
		if len(told) != len(ids) {
			t.Errorf("draw %d: the loop tells %d blobs of %d", i, len(told), len(ids))
		}
		for _, id := range otherIDs(s.words.face) {
			s.wantGet(t, fmt.Sprint("draw ", i, ": other ids"), id, nil, api.ErrNoBlob, id)
		}
	}
}

// wantOwnBytes asks that what is answered has the id that was asked for, and the
// length that the bundle says.
func wantOwnBytes(t testing.TB, what string, r *reader.Reader) {
	t.Helper()
	face := r.Face()
	for k, place := range face.Blobs {
		data, err := r.Get(place.ID)
		if err == nil && (len(data) != place.N || idOf(face.Width, data) != place.ID) {
			t.Errorf("%s: blob %d: %d bytes of another id", what, k, len(data))
		}
		if err != nil && len(data) != 0 {
			t.Errorf("%s: blob %d: bytes beside an error", what, k)
		}
	}
	k := 0
	for id, data := range r.Blobs() {
		if id != face.Blobs[k].ID || len(data) != face.Blobs[k].N || idOf(face.Width, data) != id {
			t.Errorf("%s: blob %d of the loop: %d bytes of another id", what, k, len(data))
		}
		k++
	}
}

// Of width 1 a turned bundle may have other bytes of the same id: they are
// answered, and have it.
func TestP13_8_WhateverBytesTheFileHas(t *testing.T) {
	r := noise()
	opened, answered := 0, 0
	for i := range 3000 {
		width := 1 + r.IntN(2)
		good := mustMake(t, width, nil, inOrder(3, 40, 7, 20, 90, 0), 16)
		data := changed(good, func(data []byte, n [7]int) {
			for range r.IntN(5) {
				data[6+r.IntN(len(data)-31-6)] = byte(r.IntN(256))
			}
			if r.IntN(2) == 0 {
				resum(data, n)
			}
		})
		d := mustLoad(t, of("f.b", data))
		x, err := reader.Open(d, "f.b", width)
		if err != nil {
			continue
		}
		opened++
		wantOwnBytes(t, fmt.Sprint("draw ", i), x)
		w, _, _ := openByWords(d, "f.b", width)
		wantAllByWords(t, fmt.Sprint("draw ", i), x, w)
		told, _ := w.blobs(-1)
		answered += len(told)
	}
	if opened < 500 || answered < 500 {
		t.Errorf("%d bundles, %d blobs: too few", opened, answered)
	}
}

// resum writes the sums of the blocks as they are now into INDEX, as far as they
// lie where they lay.
func resum(data []byte, n [7]int) {
	at := 6
	for p := n[3] + 2; p+8 <= n[3]+n[4]; p += 8 {
		packed := int(data[p])<<8 | int(data[p+1])
		if at+packed > n[0] {
			return
		}
		put4(data[p+4:], sumOf(data[at:at+packed]))
		at += packed
	}
}

// Bytes of blocks that do not cover a blob, turned one by one and all at once.
func TestP13_8_BlocksBeside(t *testing.T) {
	for _, b := range [][][]byte{stored(), inOrder(2, 50, 16, 1, 90, 0, 33)} {
		s := shelveBlobs(t, 32, 16, b...)
		n := numbersOf(s.data)
		for k, place := range s.words.face.Blobs {
			lay(s.disk, "f.b", s.data)
			for at := 6; at < n[0]; at++ {
				if s.covers(place, at) {
					continue
				}
				s.turn(at)
				s.wantGet(t, fmt.Sprintf("blob %d, byte %d and all ahead of it turned", k, at), place.ID, b[k], api.OK, api.ID{})
			}
		}
	}
}

// The same of bundles that are opened when they are turned already.
func TestP13_8_BlocksBesideAheadOfOpen(t *testing.T) {
	good := shelveStored(t)
	n := numbersOf(good.data)
	for at := 6; at < n[0]; at++ {
		data := bytes.Clone(good.data)
		data[at] ^= 0x40
		s := shelve(t, 32, data)
		for k, place := range s.words.face.Blobs {
			if s.covers(place, at) {
				s.wantGet(t, fmt.Sprintf("blob %d, byte %d", k, at), place.ID, nil, api.ErrBlock, api.ID{})
				continue
			}
			s.wantGet(t, fmt.Sprintf("blob %d, byte %d", k, at), place.ID, stored()[k], api.OK, api.ID{})
		}
	}
}
