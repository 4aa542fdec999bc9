package reader_test

import (
	"bytes"
	"fmt"
	"testing"

	"freight/api"
	"freight/reader"
)

// No stroke, and no byte that is another, though it be refused.
func TestP13_9_NoStroke(t *testing.T) {
	for _, spoil := range []func(s *shelf){
		func(s *shelf) {},
		func(s *shelf) { s.turn(s.words.face.Blocks[2].At) },
		func(s *shelf) { s.turn(0) },
		func(s *shelf) { s.disk.Truncate("f.b", 60) },
		func(s *shelf) { s.disk.Remove("f.b") },
		func(s *shelf) { s.disk.Plan(api.Plan{Off: 1, From: 1, To: 9}) },
		func(s *shelf) { powerOff(s.disk) },
	} {
		s := shelveStored(t)
		spoil(s)
		before := untouched(s.disk)
		reader.Open(s.disk, "f.b", 32)
		reader.Open(s.disk, "f.b", 31)
		for _, place := range s.reader.Face().Blobs {
			s.reader.Get(place.ID)
		}
		s.reader.Get(api.ID{9})
		taken(s.reader.Blobs(), 3)
		taken(s.reader.Blobs(), -1)
		s.reader.Name()
		if after := untouched(s.disk); after != before {
			t.Errorf("%.300s, want %.300s", after, before)
		}
	}
}

// The plan has not moved on: the power goes off at the first stroke behind.
func TestP13_9_ThePlanWaits(t *testing.T) {
	s := shelveStored(t)
	s.disk.Plan(api.Plan{Off: 2})
	mustOpen(t, s.disk, "f.b", 32)
	taken(s.reader.Blobs(), -1)
	if one, two := s.disk.Create("a"), s.disk.Create("b"); one != api.OK || two != api.ErrOff {
		t.Errorf("%d, %d", one, two)
	}
}

// The bytes of each Get are new memory, spare room too.
func TestP13_9_BytesOfGet(t *testing.T) {
	for _, b := range bundles(t) {
		s := shelve(t, b.width, b.data)
		var held [][]byte
		for _, place := range s.words.face.Blobs {
			want, _, _, _ := s.words.get(place.ID)
			one, _ := s.reader.Get(place.ID)
			other, _ := s.reader.Get(place.ID)
			fill(one, 0x5a)
			_ = append(one, "more"...)
			if !bytes.Equal(other, want) {
				t.Errorf("%s: two answers share memory", b.what)
			}
			fill(other, 0xa5)
			if !bytes.Equal(one[:cap(one)], times(cap(one), 0x5a)) {
				t.Errorf("%s: two answers share room", b.what)
			}
			held = append(held, one)
		}
		s.wantLike(t, b.what+", answers written over")
		for _, data := range held {
			if !bytes.Equal(data[:cap(data)], times(cap(data), 0x5a)) {
				t.Errorf("%s: an answer is another behind later calls", b.what)
			}
		}
		if now, _ := shownFile(s.disk, "f.b"); !bytes.Equal(now, b.data) {
			t.Errorf("%s: the file is another", b.what)
		}
	}
}

// An answer does not hang on the file.
func TestP13_9_TheFileChangesBehind(t *testing.T) {
	s := shelveStored(t)
	var held [][]byte
	for _, b := range stored() {
		data, _ := s.reader.Get(idOf(32, b))
		held = append(held, data)
	}
	for _, data := range s.reader.Blobs() {
		held = append(held, data)
	}
	s.disk.WriteAt("f.b", 0, times(len(s.data), 0x77))
	s.disk.Truncate("f.b", 3)
	s.disk.Crash()
	for k, want := range append(stored(), stored()...) {
		if !bytes.Equal(held[k], want) {
			t.Errorf("answer %d is another", k)
		}
	}
}

// The bytes of each step of a loop are new memory, spare room too.
func TestP13_9_BytesOfBlobs(t *testing.T) {
	for _, b := range bundles(t) {
		s := shelve(t, b.width, b.data)
		seq := s.reader.Blobs()
		var first, second [][]byte
		for _, data := range seq {
			first = append(first, data)
		}
		for k := range first {
			fill(first[k], byte(k))
			_ = append(first[k], "more"...)
		}
		for _, data := range seq {
			second = append(second, data)
			fill(data, 0xee) // ahead of the next step
		}
		if len(first) != len(s.words.face.Blobs) || len(second) != len(first) {
			t.Fatalf("%s: %d and %d blobs", b.what, len(first), len(second))
		}
		for k := range first {
			if !bytes.Equal(first[k][:cap(first[k])], times(cap(first[k]), byte(k))) {
				t.Errorf("%s: step %d shares memory", b.what, k)
			}
			if !bytes.Equal(second[k][:cap(second[k])], times(cap(second[k]), 0xee)) {
				t.Errorf("%s: step %d of the second loop shares memory", b.what, k)
			}
		}
		s.wantLike(t, b.what+", steps written over")
	}
}

// wipe writes over all lists of a face, and over their room.
func wipe(face api.Face) {
	fill(face.Results, res(77, api.ID{77}, 77))
	fill(face.Blobs, api.Place{ID: api.ID{77}, At: -77, N: -77})
	fill(face.Blocks, api.Block{At: -77, Packed: -77, Raw: -77, Sum: -77})
}

// grow appends to all lists of a face.
func grow(face api.Face) {
	_ = append(face.Results, res(78, api.ID{78}, 78))
	_ = append(face.Blobs, api.Place{At: 78})
	_ = append(face.Blocks, api.Block{At: 78})
}

func TestP13_9_ListsOfFace(t *testing.T) {
	for _, b := range bundles(t) {
		s := shelve(t, b.width, b.data)
		one, other := s.reader.Face(), s.reader.Face()
		seq := s.reader.Blobs()
		wipe(one)
		grow(one)
		if !likeFace(other, s.words.face) || !likeFace(s.reader.Face(), s.words.face) {
			t.Errorf("%s: a Face shares a list", b.what)
		}
		want, _ := s.words.blobs(-1)
		wantTold(t, b.what+": an iterator from before", taken(seq, -1), want)
		s.wantLike(t, b.what+", a Face written over")

		again := mustOpen(t, s.disk, "f.b", b.width)
		wipe(again.Face())
		wipe(other)
		if !likeFace(s.reader.Face(), s.words.face) || !likeFace(again.Face(), s.words.face) {
			t.Errorf("%s: two Readers share a list", b.what)
		}
	}
}

// A Face that is written over within a loop changes nothing of the loop.
func TestP13_9_FaceWithinALoop(t *testing.T) {
	s := shelveStored(t)
	k := 0
	for id, data := range s.reader.Blobs() {
		wipe(s.reader.Face())
		fill(data, 9)
		if id != idOf(32, stored()[k]) {
			t.Errorf("step %d: another id", k)
		}
		k++
	}
	if k != len(stored()) {
		t.Errorf("%d steps", k)
	}
}

// A Reader that is copied as a value, and one that is not used any more.
func TestP13_9_Copies(t *testing.T) {
	s := shelveStored(t)
	twin := *s.reader
	wantAllByWords(t, "a copy", &twin, s.words)
	wipe(twin.Face())
	s.wantLike(t, "the first one")
	twin = reader.Reader{}
	s.wantLike(t, fmt.Sprintf("the first one, the copy gone (%q)", twin.Name()))
}
