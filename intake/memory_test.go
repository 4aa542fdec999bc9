package intake_test

import (
	"bytes"
	"slices"
	"sync"
	"testing"

	"freight/api"
	"freight/intake"
)

// roomy is a journal whose lists have room behind their ends that is written full.
func roomy(j api.Journal) api.Journal {
	j.Results = spare(j.Results, res(200, api.ID{9}, 9))
	j.Need = spare(j.Need, api.ID{250})
	j.Table = spare(j.Table, res(201, api.ID{8}, 8))
	return j
}

// isRoomy tells whether such lists are as they were.
func isRoomy(j, was api.Journal) bool {
	behind := func(list []api.Result, with api.Result) bool {
		return !slices.ContainsFunc(list[len(list):cap(list)], func(r api.Result) bool { return r != with })
	}
	return likeJournal(j, was) && behind(j.Results, res(200, api.ID{9}, 9)) && behind(j.Table, res(201, api.ID{8}, 8)) &&
		!slices.ContainsFunc(j.Need[len(j.Need):cap(j.Need)], func(id api.ID) bool { return id != api.ID{250} })
}

// fillJournal writes over all lists of a journal, and over their room.
func fillJournal(j api.Journal, with byte) {
	fill(j.Results, res(with, api.ID{with}, int(with)))
	fill(j.Need, api.ID{with})
	fill(j.Table, res(with, api.ID{with}, int(with)))
}

// clone is a journal with lists of its own.
func clone(j api.Journal) api.Journal {
	j.Results, j.Need, j.Table = slices.Clone(j.Results), slices.Clone(j.Need), slices.Clone(j.Table)
	return j
}

func TestW6_EncodeTakesNothing(t *testing.T) {
	for _, list := range []map[string]api.Journal{journals(), noJournals()} {
		for what, j := range list {
			handed := roomy(j)
			form, err := intake.Encode(handed)
			if !isRoomy(handed, j) {
				t.Errorf("%s: a list is another", what)
			}
			want := bytes.Clone(form)
			other, _ := intake.Encode(handed)
			fillJournal(handed, 77)
			fill(other, 0xee)
			if !bytes.Equal(form, want) {
				t.Errorf("%s: the form hangs on what was handed in", what)
			}
			fill(form, 0xdd)
			if again, err2 := intake.Encode(j); (err == nil) != (err2 == nil) || !bytes.Equal(again, want) {
				t.Errorf("%s: once more: %v", what, err2)
			}
		}
	}
}

func TestW6_DecodeTakesNothing(t *testing.T) {
	for what, j := range journals() {
		form := []byte(formByWords(j))
		handed := spare(form, 0xee)
		one, err := intake.Decode(handed)
		other, _ := intake.Decode(handed)
		if err != nil || !bytes.Equal(handed, form) || !bytes.Equal(handed[:cap(handed)][len(form):], []byte{0xee, 0xee, 0xee}) {
			t.Fatalf("%s: the bytes are others: %v", what, err)
		}
		fill(handed, 0)
		wantApart(t, what, one, other, j)
	}
	for _, data := range noForms() {
		handed := spare([]byte(data), 0xee)
		intake.Decode(handed)
		if string(handed) != data || !bytes.Equal(handed[:cap(handed)][len(data):], []byte{0xee, 0xee, 0xee}) {
			t.Errorf("%.10q: the bytes are others", data)
		}
	}
}

// wantApart asks of two answers that they share nothing, and no two lists of one.
func wantApart(t *testing.T, what string, one, other, want api.Journal) {
	t.Helper()
	if !likeJournal(one, want) || !likeJournal(other, want) {
		t.Fatalf("%s: %v and %v, want %v", what, one, other, want)
	}
	fillJournal(one, 66)
	if !likeJournal(other, want) {
		t.Errorf("%s: two answers share memory", what)
	}
	fill(other.Results, res(1, api.ID{1}, 1))
	if !slices.Equal(other.Table, want.Table) || !slices.Equal(other.Need, want.Need) {
		t.Errorf("%s: Results share memory", what)
	}
	fill(other.Table, res(2, api.ID{2}, 2))
	if slices.Contains(other.Results[:cap(other.Results)], res(2, api.ID{2}, 2)) {
		t.Errorf("%s: Results and Table share room", what)
	}
	fill(other.Need, api.ID{3})
	if slices.Contains(one.Need[:cap(one.Need)], api.ID{3}) || slices.Contains(one.Table[:cap(one.Table)], res(2, api.ID{2}, 2)) || slices.Contains(one.Results[:cap(one.Results)], res(1, api.ID{1}, 1)) {
		t.Errorf("%s: two answers share room", what)
	}
}

func TestW6_JournalIsNewMemory(t *testing.T) {
	for what, j := range journals() {
		s := stored(t, 32, nil, nil, of("c.a.import", formByWords(j)))
		before := s.disk.Twin()
		one, err := intake.Journal(s.cache)
		if err != nil {
			t.Fatal(err)
		}
		other, _ := intake.Journal(s.cache)
		wantApart(t, what, one, other, j)
		wantSameDisk(t, what, s.disk, before)
		s.wantJournal(t, what, j)
	}
}

// Lists stay as they were, behind their ends too, whether the call is refused or
// not; the Reader stays as it was.
func TestW6_PartTakesNothing(t *testing.T) {
	g := stock(8)
	for _, list := range []map[string]argument{noArguments(g), {
		"good":        {g.results, g.ids(), api.Keep},
		"one":         {g.results[1:2], g.needOf(g.results[1]), api.Take},
		"none":        {nil, nil, api.Fail},
		"not whole":   {g.results, g.ids()[1:], api.Keep},
		"not there":   {g.results, rising(append(g.ids(), api.ID{1})...), api.Keep},
		"a conflict":  {[]api.Result{res(1, api.ID{}, 2)}, nil, api.Fail},
		"a conflict?": {[]api.Result{res(1, api.ID{}, 2)}, nil, api.Take},
	}} {
		for what, a := range list {
			for _, plan := range []api.Plan{{}, {From: 1, To: 1}, {From: 7, To: 7}, {Off: 9}} {
				s := shelved(t, g, []string{crate}, []api.Result{res(1, api.ID{}, 1)})
				r := s.reader(t, "f.x")
				face := r.reader.Face()
				handed := roomy(api.Journal{Results: a.results, Need: a.need})
				s.disk.Plan(plan)
				intake.Part(s.cache, r.reader, handed.Results, handed.Need, a.policy)
				if !isRoomy(handed, api.Journal{Results: a.results, Need: a.need}) {
					t.Errorf("%s: a list is another", what)
				}
				now := r.reader.Face()
				if !slices.Equal(now.Results, face.Results) || !slices.Equal(now.Blobs, face.Blobs) || !slices.Equal(now.Blocks, face.Blocks) {
					t.Errorf("%s: the Reader is another", what)
				}
			}
		}
	}
}

// What was handed in is not kept: what comes of it later says nothing.
func TestW6_PartKeepsNothing(t *testing.T) {
	g := stock(8)
	s := shelved(t, g, nil, nil)
	results, need := slices.Clone(g.results), g.ids()
	s.disk.Plan(api.Plan{From: 11, To: 11})
	err := intake.Part(s.cache, s.reader(t, "f.x").reader, results, need, api.Keep)
	fill(results, res(99, api.ID{9}, 9))
	fill(need, api.ID{9})
	wantFault(t, "no room", err, "intake.part", "a", api.ErrFull, g.ids()[1])
	s.wantJournal(t, "written over", g.journal(64, g.results...))
	s.want(t, "resumed", resuming(), api.OK, api.ID{})
	s.wantHolds(t, "resumed", g.blobs, g.results)
}

// A nil list and an empty one are the same.
func TestW5_NilAndEmpty(t *testing.T) {
	g := stock(8)
	for _, results := range [][]api.Result{nil, {}, g.results[:0]} {
		for _, need := range [][]api.ID{nil, {}, g.ids()[:0]} {
			s := shelved(t, g, nil, nil)
			s.want(t, "none", taking(s.reader(t, "f.x"), results, need, api.Fail), api.OK, api.ID{})
			if s.disk.Strokes() != 7 {
				t.Errorf("%d strokes", s.disk.Strokes())
			}
			j := api.Journal{Bundle: "f.x", Results: results, Need: need, Table: results}
			if form, err := intake.Encode(j); err != nil || string(form) != formByWords(api.Journal{Bundle: "f.x"}) {
				t.Errorf("%x, %v", form, err)
			}
		}
	}
	for _, none := range [][]byte{nil, {}} {
		if _, err := intake.Decode(none); api.Code(err) != api.ErrJournal {
			t.Errorf("no bytes: %v", err)
		}
	}
}

// Calls on disks of their own know nothing of each other, and answer the same each
// time.
func TestW2_SideBySide(t *testing.T) {
	g := stock(32)
	first := shelved(t, g, nil, nil)
	first.want(t, "first", importing("f.x", api.Keep), api.OK, api.ID{})
	var all sync.WaitGroup
	for k := range 16 {
		s := shelved(t, g, nil, nil)
		all.Go(func() {
			s.disk.Plan(api.Plan{From: 6 + k, To: 6 + k})
			err := intake.Import(s.cache, "f.x", api.Keep)
			if s.cache.Pending() {
				err = intake.Resume(s.cache)
			}
			if err != nil || !sameFiles(s.disk.Files(), first.disk.Files()) {
				t.Errorf("%d: %v", k, err)
			}
		})
	}
	all.Wait()
}
