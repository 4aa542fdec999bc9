package reader_test

import (
	"fmt"
	"testing"

	"freight/api"
	"freight/disk"
	"freight/reader"
)

// choice is a number from 0 on, below the one that is handed in.
type choice func(below int) int

// script is a disk, and what is open on it: the Reader and the words of it.
type script struct {
	disk    *disk.Disk
	bundles [][]byte
	readers []*reader.Reader
	words   []*words
	met     map[api.Errno]int // how often a Get said what
}

const scriptWidth = 2

func scriptNames() []string { return []string{"f.b", "f.c", "+f.b"} }

// newScript has bundles of few bytes, so that what is drawn meets their edges.
func newScript(t testing.TB) *script {
	good := mustMake(t, scriptWidth, []api.Result{res(1, api.ID{2}, 3)}, inOrder(4, 20, 16, 0, 33), 16)
	second := mustMake(t, scriptWidth, nil, inOrder(256, 20, 12, 40), 16)
	other := withID(second, 1, near(idOf(scriptWidth, inOrder(256, 20, 12, 40)[1]), 1))
	return &script{
		met:  map[api.Errno]int{},
		disk: mustLoad(t, of("f.b", good), of("f.c", other)),
		bundles: [][]byte{
			good,
			second,
			mustMake(t, scriptWidth, nil, inOrder(2, 100, 3), 64),
			other,
			mustMake(t, 3, nil, inOrder(256, 20), 16),
			nil,
			times(60, 't'),
		},
	}
}

// change does something to the disk, by hand.
func (s *script) change(choose choice) string {
	name := scriptNames()[choose(3)]
	size, _ := s.disk.Size(name)
	switch choose(12) {
	case 0, 1:
		k := choose(len(s.bundles))
		lay(s.disk, name, s.bundles[k])
		return fmt.Sprint("lay ", name, " ", k)
	case 2, 3, 4:
		at := choose(size + 1)
		s.disk.WriteAt(name, at, []byte{byte(choose(256))})
		return fmt.Sprint("write ", name, " ", at)
	case 5:
		n := choose(size + 1)
		s.disk.Truncate(name, n)
		return fmt.Sprint("cut ", name, " ", n)
	case 6:
		s.disk.Append(name, times(choose(40), 1))
		return "append " + name
	case 7:
		s.disk.Remove(name)
		return "remove " + name
	case 8:
		to := scriptNames()[choose(3)]
		s.disk.Rename(name, to)
		return "rename " + name + " " + to
	case 9:
		s.disk.Sync(name)
		s.disk.SyncNames()
		return "sync " + name
	case 10:
		s.disk.Plan(api.Plan{Off: 1 + choose(4)})
		return "plan"
	}
	s.disk.Crash(choose(20), choose(200), choose(200), choose(200))
	return "crash"
}

// step changes the disk, or holds a call against the words.
func (s *script) step(t testing.TB, choose choice) string {
	t.Helper()
	if choose(3) == 0 {
		return s.change(choose)
	}
	if len(s.readers) == 0 || choose(4) == 0 {
		name := append(scriptNames(), "f.z", "F")[choose(5)]
		width := []int{scriptWidth, scriptWidth, scriptWidth, 3, 0, 33}[choose(6)]
		r, w := wantOpenByWords(t, fmt.Sprint("open ", name, " ", width), s.disk, name, width)
		if r != nil {
			s.readers, s.words = append(s.readers, r), append(s.words, w)
		}
		return fmt.Sprint("open ", name, " ", width)
	}
	k := choose(len(s.readers))
	r, w := s.readers[k], s.words[k]
	what := fmt.Sprint("reader ", k)
	switch choose(4) {
	case 0:
		wantBlobsByWords(t, what+": blobs", r, w)
	case 1:
		most := 1 + choose(4)
		told, reads := w.blobs(most)
		s.disk.Look()
		wantTold(t, what+": some blobs", taken(r.Blobs(), most), told)
		wantReads(t, what+": some blobs", s.disk, reads)
	case 2:
		if r.Name() != w.name || !likeFace(r.Face(), w.face) {
			t.Errorf("%s: another name or face", what)
		}
	default:
		ids := []api.ID{{}, {9}}
		for _, place := range w.face.Blobs {
			ids = append(ids, place.ID)
		}
		s.met[wantGetByWords(t, what+": get", r, w, ids[choose(len(ids))])]++
	}
	return what
}

// Changes by hand, crashes and calls in any order.
func TestScripts(t *testing.T) {
	r := noise()
	met := map[api.Errno]int{}
	for i := range 1500 {
		s := newScript(t)
		s.met = met
		var steps []string
		for range 40 {
			steps = append(steps, s.step(t, r.IntN))
			if t.Failed() {
				t.Fatalf("script %d: %q", i, steps)
			}
		}
	}
	for _, errno := range []api.Errno{api.OK, api.ErrOff, api.ErrNoBlob, api.ErrNone, api.ErrBeyond, api.ErrBlock, api.ErrDigest} {
		if met[errno] < 50 {
			t.Errorf("%d is met %d times", errno, met[errno])
		}
	}
}

func FuzzAsTheWordsSay(f *testing.F) {
	f.Add([]byte{})
	f.Add([]byte{1, 0, 0, 0, 1, 1, 1, 3, 2, 0, 2, 2, 9, 1, 1, 0, 3, 4})
	f.Fuzz(func(t *testing.T, draws []byte) {
		s := newScript(t)
		choose := func(below int) int {
			if len(draws) == 0 {
				return 0
			}
			first := int(draws[0])
			draws = draws[1:]
			return first % below
		}
		for n := 0; len(draws) > 0 && n < 200; n++ {
			s.step(t, choose)
		}
	})
}
