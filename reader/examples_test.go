package reader_test

import (
	"testing"

	"freight/api"
	"freight/bundle"
)

// examples are the bundles of chapter 12's examples, and one of several blobs.
func examples(t *testing.T) map[string]*shelf {
	x := []byte("hi")
	return map[string]*shelf{
		"of nothing": shelveBlobs(t, 32, 64),
		"of X":       shelveBlobs(t, 32, 64, x, x),
		"of more":    shelveBlobs(t, 32, 64, x, times(300, 'y'), []byte("crate 7 of 31, bay 2"), nil),
	}
}

func TestExamplesOpen(t *testing.T) {
	for what, s := range examples(t) {
		wantNoOpen(t, what+", width 33", s.disk, "f.b", 33, api.ErrArg)
		wantNoOpen(t, what+", nil", nil, "f.b", 1, api.ErrOff)
		wantNoOpen(t, what+", f.z", s.disk, "f.z", 1, api.ErrNone)
		wantNoOpen(t, what+", F", s.disk, "F", 1, api.ErrName)
	}
}

func TestExamplesNoBytesAndOneMore(t *testing.T) {
	wantNoOpen(t, "no bytes", mustLoad(t, of("f.b", nil)), "f.b", 32, api.ErrBundle)
	for what, s := range examples(t) {
		for _, more := range []byte{0, 'f', 255} {
			s.disk.Truncate("f.b", len(s.data))
			s.disk.Append("f.b", []byte{more})
			wantNoOpen(t, what+", one byte more", s.disk, "f.b", 32, api.ErrBundle)
		}
	}
}

func TestExamplesFace(t *testing.T) {
	for what, s := range examples(t) {
		want, err := bundle.Parse(s.data, 32)
		if got := s.reader.Face(); err != nil || !likeFace(got, want) {
			t.Errorf("%s: %v, want %v", what, got, want)
		}
	}
}

func TestExamplesGet(t *testing.T) {
	for what, s := range examples(t) {
		other := idOf(32, []byte("not in it"))
		s.wantGet(t, what, other, nil, api.ErrNoBlob, other)
		s.wantLike(t, what)
	}
	s := examples(t)["of X"]
	s.disk.Look()
	s.wantGet(t, "X", idOf(32, []byte("hi")), []byte("hi"), api.OK, api.ID{})
	wantReads(t, "X", s.disk, []api.Span{{Name: "f.b", At: 6, N: 2}})
}

func TestExamplesTheLastBlockTurned(t *testing.T) {
	good := examples(t)["of more"]
	last := good.words.face.Blocks[len(good.words.face.Blocks)-1]
	d := mustLoad(t, of("f.b", good.data))
	d.WriteAt("f.b", last.At, []byte{good.data[last.At] ^ 1})
	r := mustOpen(t, d, "f.b", 32)
	covered, beside := 0, 0
	for _, place := range r.Face().Blobs {
		want, _, _, _ := good.words.get(place.ID)
		data, err := r.Get(place.ID)
		if good.covers(place, last.At) {
			wantFault(t, "covered", err, "reader.get", "f.b", api.ErrBlock, api.ID{})
			covered++
			continue
		}
		if err != nil || string(data) != string(want) {
			t.Errorf("beside: %q, %v", data, err)
		}
		beside++
	}
	if covered == 0 || beside == 0 {
		t.Errorf("%d covered, %d beside", covered, beside)
	}
}

func TestExamplesTakenAwayAndOff(t *testing.T) {
	x := []byte("hi")
	s := examples(t)["of X"]
	s.disk.Remove("f.b")
	if !likeFace(s.reader.Face(), s.words.face) {
		t.Errorf("taken away: %v", s.reader.Face())
	}
	s.wantGet(t, "taken away", idOf(32, x), nil, api.ErrNone, api.ID{})
	s = examples(t)["of X"]
	powerOff(s.disk)
	s.wantGet(t, "off", idOf(32, x), nil, api.ErrOff, api.ID{})
}
