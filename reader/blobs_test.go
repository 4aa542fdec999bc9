package reader_test

import (
	"fmt"
	"iter"
	"slices"
	"testing"

	"freight/api"
	"freight/reader"
)

// taken are the first blobs that a loop is told, at most so many.
func taken(seq iter.Seq2[api.ID, []byte], most int) []blob {
	var told []blob
	for id, data := range seq {
		told = append(told, blob{id, string(data)})
		if len(told) == most {
			break
		}
	}
	return told
}

// all are blobs as they are told.
func all(width int, blobs [][]byte) []blob {
	var told []blob
	for _, b := range blobs {
		told = append(told, blob{idOf(width, b), string(b)})
	}
	return told
}

func wantTold(t testing.TB, what string, got, want []blob) {
	t.Helper()
	if !slices.Equal(got, want) {
		t.Errorf("%s: %d blobs, want %d, or others", what, len(got), len(want))
	}
}

func TestP13_5_All(t *testing.T) {
	s := shelveStored(t)
	wantTold(t, "all", taken(s.reader.Blobs(), -1), all(32, stored()))
	for _, b := range bundles(t) {
		s := shelve(t, b.width, b.data)
		if n := wantBlobsByWords(t, b.what, s.reader, s.words); n != len(s.words.face.Blobs) {
			t.Errorf("%s: %d blobs", b.what, n)
		}
	}
}

// As far as it is asked, and no byte is read ahead.
func TestP13_5_BreaksOff(t *testing.T) {
	s := shelveStored(t)
	blobs, blocks := stored(), storedBlocks()
	seq := s.reader.Blobs()
	for _, most := range []int{1, 2, 3, 6, 7, 8, 9, 1} {
		s.disk.Look()
		wantTold(t, fmt.Sprint("the first ", most), taken(seq, most), all(32, blobs[:most]))
		wantReads(t, fmt.Sprint("the first ", most), s.disk, storedSpans(slices.Concat(blocks[:most]...)))
	}
}

// Told to stop, the iterator hands on nothing more.
func TestP13_5_ToldToStop(t *testing.T) {
	s := shelveStored(t)
	for stop := range 10 {
		calls := 0
		s.reader.Blobs()(func(api.ID, []byte) bool {
			calls++
			return calls <= stop
		})
		if want := min(stop+1, 9); calls != want {
			t.Errorf("stop behind %d: called %d times, want %d", stop, calls, want)
		}
	}
}

// Nothing is read until a loop asks.
func TestP13_5_NoLoop(t *testing.T) {
	s := shelveStored(t)
	s.disk.Look()
	seq := s.reader.Blobs()
	wantReads(t, "no loop", s.disk, nil)
	s.disk.Remove("f.b")
	wantTold(t, "gone ahead of the loop", taken(seq, -1), nil)
	lay(s.disk, "f.b", s.data)
	wantTold(t, "back again", taken(seq, -1), all(32, stored()))
}

func TestP13_5_Again(t *testing.T) {
	s := shelveStored(t)
	seq := s.reader.Blobs()
	for range 3 {
		wantTold(t, "the first four", taken(seq, 4), all(32, stored()[:4]))
		wantTold(t, "all", taken(seq, -1), all(32, stored()))
	}
}

func TestP13_5_OneInsideAnother(t *testing.T) {
	s := shelveStored(t)
	blobs := stored()
	for _, seqs := range [][2]iter.Seq2[api.ID, []byte]{
		{s.reader.Blobs(), s.reader.Blobs()},
		{s.reader.Blobs(), nil},
	} {
		if seqs[1] == nil {
			seqs[1] = seqs[0] // one iterator, in both loops
		}
		k := 0
		for id, data := range seqs[0] {
			wantTold(t, "the outer one", []blob{{id, string(data)}}, all(32, blobs[k:k+1]))
			wantTold(t, "the inner one", taken(seqs[1], k+1), all(32, blobs[:k+1]))
			k++
		}
		if k != len(blobs) {
			t.Errorf("the outer one: %d blobs", k)
		}
	}
}

// Two loops side by side, step by step.
func TestP13_5_SideBySide(t *testing.T) {
	s := shelveStored(t)
	seq := s.reader.Blobs()
	one, stopOne := iter.Pull2(seq)
	defer stopOne()
	other, stopOther := iter.Pull2(seq)
	defer stopOther()
	one()
	one()
	for k, want := range all(32, stored()) {
		id, data, is := other()
		if !is || (blob{id, string(data)}) != want {
			t.Errorf("the other one: blob %d: %x", k, id[:3])
		}
		id, data, is = one()
		if want := all(32, stored()); k+2 < len(want) && (!is || (blob{id, string(data)}) != want[k+2]) || k+2 >= len(want) && is {
			t.Errorf("the one: blob %d: %x, %t", k+2, id[:3], is)
		}
	}
}

// One iterator, while the file changes within the loop: each blob as the file is
// when it is asked for.
func TestP13_5_TheFileChangesWithin(t *testing.T) {
	blobs := stored()
	at := func(k int) int { return storedSpan(k).At }
	for _, x := range []struct {
		what   string
		within func(s *shelf, k int) // behind the k-th blob
		told   int
	}{
		{"a block behind is turned", func(s *shelf, k int) {
			if k == 1 {
				s.turn(at(5))
			}
		}, 7},
		{"a block behind is turned, and back in time", func(s *shelf, k int) {
			if k == 1 || k == 6 {
				s.turn(at(5))
			}
		}, 9},
		{"a block is turned that was read", func(s *shelf, k int) {
			if k == 5 {
				s.turn(at(0))
				s.turn(at(3))
			}
		}, 9},
		{"a block is turned that is read again", func(s *shelf, k int) {
			if k == 4 {
				s.turn(at(3))
			}
		}, 5},
		{"gone", func(s *shelf, k int) {
			if k == 2 {
				s.disk.Remove("f.b")
			}
		}, 3},
		{"gone ahead of the blob of no bytes", func(s *shelf, k int) {
			if k == 5 {
				s.disk.Remove("f.b")
			}
		}, 7},
		{"off ahead of the blob of no bytes", func(s *shelf, k int) {
			if k == 5 {
				powerOff(s.disk)
			}
		}, 6},
		{"cut", func(s *shelf, k int) {
			if k == 0 {
				s.disk.Truncate("f.b", at(9)+3)
			}
		}, 8},
	} {
		s := shelveStored(t)
		seq := s.reader.Blobs()
		k := 0
		for id, data := range seq {
			if k >= len(blobs) || id != idOf(32, blobs[k]) || string(data) != string(blobs[k]) {
				t.Errorf("%s: blob %d is another", x.what, k)
			}
			x.within(s, k)
			k++
		}
		if k != x.told {
			t.Errorf("%s: %d blobs, want %d", x.what, k, x.told)
		}
		want, _ := s.words.blobs(-1)
		wantTold(t, x.what+": once more", taken(seq, -1), want)
	}
}

// Up to the first one that Get would refuse, for whatever it would refuse it.
func TestP13_5_OneThatCannotBeRead(t *testing.T) {
	blobs, blocks := stored(), storedBlocks()
	good := mustMake(t, 32, nil, blobs, 16)
	for k, b := range blobs {
		s := shelve(t, 32, withID(good, k, near(idOf(32, b), 31)))
		s.disk.Look()
		wantTold(t, fmt.Sprint("another id: blob ", k), taken(s.reader.Blobs(), -1), all(32, blobs[:k]))
		wantReads(t, fmt.Sprint("another id: blob ", k), s.disk, storedSpans(slices.Concat(blocks[:k+1]...)))
	}
	for at := range good {
		s := shelveStored(t)
		s.turn(at)
		first := slices.IndexFunc(s.words.face.Blobs, func(p api.Place) bool { return s.covers(p, at) })
		if first < 0 {
			first = len(blobs)
		}
		wantTold(t, fmt.Sprintf("byte %d turned", at), taken(s.reader.Blobs(), -1), all(32, blobs[:first]))
		wantBlobsByWords(t, fmt.Sprintf("byte %d turned", at), s.reader, s.words)
	}
}

// Get tells of each blob what a loop does.
func TestP13_5_AsGetSays(t *testing.T) {
	s := shelveStored(t)
	for id, data := range s.reader.Blobs() {
		s.wantGet(t, "within", id, data, api.OK, api.ID{})
	}
}

func TestP13_5_NoReader(t *testing.T) {
	var none *reader.Reader
	for what, r := range map[string]*reader.Reader{"nil": none, "zero": {}} {
		wantTold(t, what, taken(r.Blobs(), -1), nil)
	}
}

// An iterator is of the Reader as it was when it was asked for.
func TestP13_5_AnotherReaderInItsPlace(t *testing.T) {
	s := shelveStored(t)
	seq := s.reader.Blobs()
	*s.reader = reader.Reader{}
	wantTold(t, "as it was", taken(seq, -1), all(32, stored()))
	wantTold(t, "as it is", taken(s.reader.Blobs(), -1), nil)
}
