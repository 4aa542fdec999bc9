package bundle_test

import (
	"bytes"
	"encoding/binary"
	"fmt"
	"math/rand/v2"
	"slices"
	"testing"

	"freight/api"
	"freight/block"
	"freight/bundle"
	"freight/reach"
)

// wantTold asks Parse of what Make wrote for what was put into it, and the blocks for the bytes.
func wantTold(t testing.TB, width int, results []api.Result, blobs [][]byte, size int) {
	t.Helper()
	data := mustMake(t, width, results, blobs, size)
	face, err := bundle.Parse(data, width)
	if err != nil || face.Width != width || face.Size != size || !slices.Equal(face.Results, results) {
		t.Errorf("Parse of what Make wrote: %s, %v", shown(face), err)
		return
	}
	var row []byte
	for _, b := range face.Blocks {
		raw, errno := block.Open(data[b.At:b.At+b.Packed], b)
		if errno != api.OK {
			t.Errorf("a block at %d: %d", b.At, errno)
			return
		}
		row = append(row, raw...)
	}
	byID := map[api.ID][]byte{}
	for _, b := range blobs {
		byID[idOf(width, b)] = b
	}
	if len(face.Blobs) != len(byID) {
		t.Errorf("%d blobs, want %d", len(face.Blobs), len(byID))
	}
	for i, p := range face.Blobs {
		want, is := byID[p.ID]
		if !is || p.N != len(want) || !bytes.Equal(row[p.At:p.At+p.N], want) {
			t.Errorf("the blob %x at %d: %d bytes", p.ID[:3], p.At, p.N)
		}
		if i > 0 && bytes.Compare(face.Blobs[i-1].ID[:], p.ID[:]) >= 0 {
			t.Errorf("ids do not rise at %d", i)
		}
	}
}

func TestP12_7_WhatMakeWritesIsTold(t *testing.T) {
	for _, width := range widths() {
		results, blobs := stock(width)
		for _, size := range []int{16, 17, 100, 4095, 4096} {
			wantTold(t, width, results, blobs, size)
			wantTold(t, width, nil, blobs, size)
			wantTold(t, width, results, nil, size)
			wantTold(t, width, nil, nil, size)
		}
	}
	wantTold(t, 32, actions(32, api.ID{3}), unlike(64, 1024), 16)
	wantTold(t, 32, actions(32, api.ID{3}), unlike(16, 4096), 4096)
	wantTold(t, 1, nil, [][]byte{nil}, 16)
}

func TestP12_7_WhatMakeWritesIsToldDrawn(t *testing.T) {
	r := noise()
	taken := 0
	for range 600 {
		width, results, blobs, size := drawn(r)
		if _, errno, _ := makeByWords(width, results, blobs, size); errno == api.OK {
			wantTold(t, width, results, blobs, size)
			taken++
		}
	}
	if taken < 50 {
		t.Errorf("%d taken", taken)
	}
}

// graph is some trees and files that name each other, and results whose roots are some of them.
func graph(r *rand.Rand, width int) ([]api.Result, [][]byte) {
	var blobs [][]byte
	for i := range 1 + r.IntN(4) {
		blobs = append(blobs, letters(r, r.IntN(40), 3+i))
	}
	for range 1 + r.IntN(5) {
		var entries []api.Entry
		for i := range r.IntN(4) {
			of := blobs[r.IntN(len(blobs))]
			entry := file(string(rune('a'+i)), idOf(width, of))
			if bytes.HasPrefix(of, []byte("T")) {
				entry.Kind = []int{api.KindFile, api.KindRun, api.KindFolder, api.KindFolder}[r.IntN(4)]
			}
			entries = append(entries, entry)
		}
		blobs = append(blobs, treeOf(entries...))
	}
	var results []api.Result
	for i := range 1 + r.IntN(3) {
		results = append(results, res(byte(i), idOf(width, blobs[len(blobs)-1-r.IntN(min(3, len(blobs)))]), r.IntN(256)))
	}
	return results, blobs
}

// wholeAndJust tells whether the need of results is whole in the blobs, and no blob is beside it.
func wholeAndJust(width int, results []api.Result, blobs [][]byte) bool {
	source := reach.Map{}
	for _, b := range blobs {
		source[idOf(width, b)] = b
	}
	need, err := reach.Need(source, results...)
	return err == nil && len(need) == len(source)
}

func TestP12_7_VerifyOfWhatMakeWrites(t *testing.T) {
	r := noise()
	good, bad := 0, 0
	for range 1500 {
		results, blobs := graph(r, 32)
		source := reach.Map{}
		for _, b := range blobs {
			source[idOf(32, b)] = b
		}
		if need, err := reach.Need(source, results...); err == nil && r.IntN(2) == 0 {
			blobs = nil
			for _, id := range need {
				blobs = append(blobs, source[id])
			}
		}
		data := mustMake(t, 32, results, blobs, 16+r.IntN(50))
		_, err := bundle.Verify(data, 32)
		if want := wholeAndJust(32, results, blobs); want != (err == nil) {
			t.Errorf("%d results, %d blobs: %v, want OK: %t", len(results), len(blobs), err, want)
		}
		wantByWords(t, "a graph", data, 32)
		if err == nil {
			good++
		} else {
			bad++
		}
	}
	if good < 200 || bad < 200 {
		t.Errorf("%d good, %d bad", good, bad)
	}
}

// A whole need is taken; without any one of its blobs it is not, nor with one beside it.
func TestP12_7_OneBlobFewerOrMore(t *testing.T) {
	for _, width := range widths() {
		results, blobs := stock(width)
		wantVerify(t, "whole", mustMake(t, width, results, blobs, 16), width, api.OK, api.ID{})
		for i, b := range blobs {
			fewer := slices.Delete(slices.Clone(blobs), i, i+1)
			wantVerify(t, fmt.Sprint("without blob ", i), mustMake(t, width, results, fewer, 16), width, api.ErrMissing, idOf(width, b))
		}
		beside := []byte("beside it all")
		wantVerify(t, "one beside", mustMake(t, width, results, append(blobs, beside), 16), width, api.ErrExtra, idOf(width, beside))
		wantVerify(t, "fewer results", mustMake(t, width, results[1:], blobs, 16), width, api.ErrExtra, leastOf(width, blobs[0], blobs[4]))
	}
}

func leastOf(width int, one, other []byte) api.ID {
	a, b := idOf(width, one), idOf(width, other)
	if bytes.Compare(a[:], b[:]) < 0 {
		return a
	}
	return b
}

// resealed has the sums that its parts have, if its trailer says where these are.
func resealed(data []byte) []byte {
	if len(data) < 43 {
		return data
	}
	sealed := bytes.Clone(data)
	n := numbersOf(sealed)
	end := len(sealed) - 31
	for k := range 2 {
		at, size := n[3*k], n[3*k+1]
		if at > end || size > end-at {
			return sealed
		}
		binary.BigEndian.PutUint32(sealed[end+12*k+8:], uint32(sumOf(sealed[at:at+size])))
	}
	return sealed
}

// Bytes of a good bundle turned, the sums of its parts made anew: whatever comes of it is what the words say.
func TestP12_6_TurnedAndSealedAnew(t *testing.T) {
	data := stocked(8, 16).bytes()
	for k := range data {
		for _, with := range []byte{1, 2, 0x80, 0xff} {
			turned := bytes.Clone(data)
			turned[k] ^= with
			wantByWords(t, fmt.Sprintf("byte %d by %x", k, with), resealed(turned), 8)
		}
	}
	r := noise()
	met := map[api.Errno]int{}
	for range 4000 {
		turned := bytes.Clone(data)
		for range 1 + r.IntN(4) {
			turned[r.IntN(len(turned))] ^= 1 << r.IntN(8)
		}
		turned = resealed(turned)
		wantByWords(t, "drawn", turned, 8)
		_, errno, _ := verifyByWords(turned, 8)
		met[errno]++
	}
	for _, errno := range []api.Errno{api.ErrBundle, api.ErrBlock, api.ErrDigest, api.ErrMissing, api.ErrMany} {
		if met[errno] == 0 {
			t.Errorf("drawn: never %d", errno)
		}
	}
}

// FuzzBytes looks at any bytes, and at the same with sums that are right.
func FuzzBytes(f *testing.F) {
	for _, size := range []int{16, 64} {
		f.Add(stocked(8, size).bytes(), 8)
		f.Add(draftOf(32, nil, nil, size).bytes(), 32)
	}
	for _, w := range wrongs() {
		d := stocked(31, 16)
		w.change(d)
		f.Add(d.bytes(), 31)
	}
	f.Fuzz(func(t *testing.T, data []byte, width int) {
		wantByWords(t, "any bytes", data, width)
		wantByWords(t, "sealed anew", resealed(data), width)
		if len(data) >= 43 {
			wantByWords(t, "its own width", resealed(data), int(data[3]))
		}
	})
}

// FuzzBlobs makes bundles of any bytes, cut into blobs behind each byte that is 10.
func FuzzBlobs(f *testing.F) {
	f.Add([]byte("crate\npallet\ncrate\n\n"), []byte("ab"), 2, 16)
	f.Add(times(300, 'q'), []byte("abc"), 1, 4096)
	f.Add([]byte("a\nb\nc\nd\ne\nf\ng\nh\ni\nj\nk\nl\nm\nn\no\np\nq\nr\ns\nt\nu\nv"), []byte{}, 1, 17)
	f.Fuzz(func(t *testing.T, data, firsts []byte, width, size int) {
		blobs := bytes.Split(data, []byte{10})
		var results []api.Result
		for i, b := range firsts {
			results = append(results, res(b, idOf(min(max(width, 1), 32), blobs[i%len(blobs)]), int(b)+i-5))
		}
		if wantMakeByWords(t, "any blobs", width, results, blobs, size) == api.OK {
			wantTold(t, width, results, blobs, size)
			made := mustMake(t, width, results, blobs, size)
			wantByWords(t, "made", made, width)
			if _, err := bundle.Verify(made, width); (err == nil) != wholeAndJust(width, results, blobs) {
				t.Errorf("Verify: %v", err)
			}
		}
	})
}
