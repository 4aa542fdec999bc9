package intake_test

import (
	"fmt"
	"slices"
	"testing"

	"freight/api"
	"freight/disk"
	"freight/reader"
)

// argument is what may be handed in to Part beside a cache and a Reader.
type argument struct {
	results []api.Result
	need    []api.ID
	policy  int
}

// noArguments are those that may not.
func noArguments(g goods) map[string]argument {
	good := argument{g.results, g.ids(), api.Keep}
	list := map[string]argument{}
	for _, policy := range noPolicies() {
		list[fmt.Sprint("policy ", policy)] = argument{good.results, good.need, policy}
	}
	for what, results := range noTables() {
		list["results: "+what] = argument{results, good.need, good.policy}
	}
	backwards := slices.Clone(good.need)
	slices.Reverse(backwards)
	for what, need := range map[string][]api.ID{
		"65 ids":              ids(65),
		"66 ids that fall":    append(ids(65), api.ID{}),
		"backwards":           backwards,
		"an id twice":         append(good.need[:len(good.need):len(good.need)], good.need[len(good.need)-1]),
		"the first twice":     append(good.need[:1:1], good.need...),
		"the zero id twice":   {{}, {}},
		"unlike at their end": {{5, 31: 2}, {5, 31: 1}},
	} {
		list["need: "+what] = argument{good.results, need, good.policy}
	}
	list["all of them"] = argument{resultsFrom(1, 33, api.ID{}), ids(65), 0}
	return list
}

// Ahead of a disk that is off, of no Reader, and of an open import.
func TestP16_4_Arguments(t *testing.T) {
	g := stock(32)
	dark := shelved(t, g, nil, nil)
	from := dark.reader(t, "f.x")
	darken(t, dark.disk)
	open := shelved(t, g, nil, nil, of("c.a.import", "open"))
	good := shelved(t, g, nil, nil)
	for what, a := range noArguments(g) {
		for _, s := range append(noStores(), dark, open, good) {
			for _, r := range []source{{}, {reader: &reader.Reader{}}, from, good.reader(t, "f.x")} {
				s.wantRefused(t, what, taking(r, a.results, a.need, a.policy), api.ErrArg, api.ID{})
			}
		}
	}
	for _, policy := range policies() {
		s := shelved(t, g, nil, nil)
		s.want(t, "good", taking(s.reader(t, "f.x"), g.results, g.ids(), policy), api.OK, api.ID{})
	}
}

// Of a cache or a Reader, nil or zero, or whose disk is off, on one disk or two;
// ahead of an open import, and of no table.
func TestP16_4_Off(t *testing.T) {
	g := stock(32)
	for _, beside := range [][]api.FileBytes{nil, {of("c.a.import", "open")}, {of("c.a.table", "no table")}} {
		lit, dark := shelved(t, g, nil, nil, beside...), shelved(t, g, nil, nil, beside...)
		fromLit, fromDark := lit.reader(t, "f.x"), dark.reader(t, "f.x")
		darken(t, dark.disk)
		for _, list := range []argument{{g.results, g.ids(), api.Keep}, {nil, nil, api.Fail}, {nil, ids(64), api.Take}} {
			for _, s := range append(noStores(), dark, lit) {
				for _, r := range []source{{}, {reader: &reader.Reader{}}, fromDark, fromLit} {
					if s != lit || r != fromLit {
						s.wantRefused(t, "off", taking(r, list.results, list.need, list.policy), api.ErrOff, api.ID{})
					}
				}
			}
		}
	}
}

// A Reader whose disk was off goes on behind the crash.
func TestP16_4_OnAgain(t *testing.T) {
	g := stock(32)
	s := shelved(t, g, nil, nil)
	other := mustLoad(t, api.MaxRoom, of("f.x", g.bundle(64)))
	r := readerOn(t, other, "f.x", 32)
	darken(t, other)
	s.wantRefused(t, "off", taking(r, g.results, g.ids(), api.Keep), api.ErrOff, api.ID{})
	other.Crash()
	s.want(t, "on", taking(r, g.results, g.ids(), api.Keep), api.OK, api.ID{})
}

func TestP16_4_Open(t *testing.T) {
	g := stock(32)
	for _, data := range append(noForms(), formByWords(g.journal(64, g.results...))) {
		s := shelved(t, g, nil, nil, of("c.a.import", data), of("c.a.table", "no table"))
		r := s.reader(t, "f.x")
		s.wantRefused(t, "open", taking(r, g.results, g.ids(), api.Take), api.ErrOpen, api.ID{})
		s.wantRefused(t, "open", taking(r, nil, nil, api.Take), api.ErrOpen, api.ID{})
		s.wantRefused(t, "open", taking(r, nil, ids(3), api.Take), api.ErrOpen, api.ID{})
	}
}

// Each set of the stock's results, and just their need.
func TestP16_4_Sets(t *testing.T) {
	g := stock(32)
	for _, held := range [][]string{nil, {pallet, "more"}, g.blobs} {
		for set := range 16 {
			var results []api.Result
			for k, r := range g.results {
				if set>>k&1 == 1 {
					results = append(results, r)
				}
			}
			s := shelved(t, g, held, nil)
			need := g.needOf(results...)
			s.want(t, fmt.Sprint("set ", set), taking(s.reader(t, "f.x"), results, need, api.Fail), api.OK, api.ID{})
			blobs := slices.Clone(held)
			for _, id := range need {
				if b := g.byID()[id]; !slices.Contains(held, b) {
					blobs = append(blobs, b)
				}
			}
			s.wantHolds(t, fmt.Sprint("set ", set), blobs, results)
		}
	}
}

// What Import of the bundle of just these results would leave.
func TestP16_4_AsAnImport(t *testing.T) {
	g := stock(2)
	own := res(1, g.results[0].Root, 1)
	for _, policy := range policies() {
		for _, results := range [][]api.Result{nil, g.results[1:2], g.results[2:], g.results} {
			part := goods{2, nil, results}
			for _, id := range g.needOf(results...) {
				part.blobs = append(part.blobs, g.byID()[id])
			}
			one, other := shelved(t, g, []string{crate}, []api.Result{own}), shelved(t, part, []string{crate}, []api.Result{own})
			one.want(t, "part", taking(one.reader(t, "f.x"), results, part.ids(), policy), api.OK, api.ID{})
			other.want(t, "whole", importing("f.x", policy), api.OK, api.ID{})
			if !sameFiles(without(one.disk.Files(), "f.x"), without(other.disk.Files(), "f.x")) || one.disk.Strokes() != other.disk.Strokes() {
				t.Errorf("%d results: %s, want %s", len(results), show(one.disk.Files()), show(other.disk.Files()))
			}
		}
	}
}

// The lists are taken as they are: results that the bundle has not, blobs that
// they do not need, 64 ids.
func TestP16_4_OtherLists(t *testing.T) {
	g := stock(32)
	s := shelved(t, g, nil, nil)
	other := []api.Result{res(1, g.results[2].Root, 9), res(200, g.results[1].Root, 1)}
	s.want(t, "other results", taking(s.reader(t, "f.x"), other, g.ids(), api.Fail), api.OK, api.ID{})
	s.wantHolds(t, "other results", g.blobs, other)
	s = shelved(t, g, nil, nil)
	s.want(t, "blobs alone", taking(s.reader(t, "f.x"), nil, g.ids()[1:4], api.Fail), api.OK, api.ID{})
	s.wantHolds(t, "blobs alone", g.inOrder()[1:4], nil)
	many := goods{32, strangers(32, 64), nil}
	s = shelved(t, many, nil, nil)
	s.want(t, "64 ids", taking(s.reader(t, "f.x"), nil, many.ids(), api.Fail), api.OK, api.ID{})
	s.wantHolds(t, "64 ids", many.blobs, nil)
}

// A need that was in the cache already need not be handed in.
func TestP16_4_WhatIsThere(t *testing.T) {
	g := stock(32)
	s := shelved(t, g, g.blobs, nil)
	s.want(t, "no need", taking(s.reader(t, "f.x"), g.results, nil, api.Fail), api.OK, api.ID{})
	s.wantHolds(t, "no need", g.blobs, g.results)
	if s.disk.Strokes() != 12 {
		t.Errorf("%d strokes", s.disk.Strokes())
	}
}

// What the Reader's Get refuses, of the least id that offends, with nothing turned.
func TestP16_4_TheReader(t *testing.T) {
	g := stock(32)
	data := g.bundle(16)
	face := faceOf(data, 32)
	list := g.ids()
	firstBlock := func(id api.ID) int {
		at := slices.IndexFunc(face.Blobs, func(p api.Place) bool { return p.ID == id })
		return face.Blobs[at].At / 16
	}
	filled := slices.DeleteFunc(slices.Clone(list), func(id api.ID) bool { return id == g.id("") })
	for _, x := range []struct {
		what  string
		spoil func(d *disk.Disk)
		need  []api.ID
		code  api.Errno
		id    api.ID
	}{
		{"no such blob", func(d *disk.Disk) {}, rising(append(list, api.ID{1}, api.ID{200})...), api.ErrNoBlob, api.ID{1}},
		{"the file is gone", func(d *disk.Disk) { d.Remove("f.x") }, filled[1:], api.ErrNone, filled[1]},
		{"the file is short", func(d *disk.Disk) { d.Truncate("f.x", 7) }, filled[2:], api.ErrBeyond, filled[2]},
		{"a block is turned", func(d *disk.Disk) {
			d.WriteAt("f.x", face.Blocks[firstBlock(filled[4])+1].At, []byte{0x55})
		}, list, api.ErrBlock, filled[4]},
	} {
		s := stored(t, 32, nil, nil, of("f.x", data))
		r := s.reader(t, "f.x")
		x.spoil(s.disk)
		s.wantRefused(t, x.what, taking(r, g.results, x.need, api.Keep), x.code, x.id)
	}
	other := withID(data, 32, 3)
	s := stored(t, 32, nil, nil, of("f.x", other))
	says := faceOf(other, 32).Blobs[3].ID
	need := rising(append(slices.Clone(list[:3]), says)...)
	s.wantRefused(t, "another id", taking(s.reader(t, "f.x"), nil, need, api.Keep), api.ErrDigest, says)
}

// As chapter 15 says of the cache.
func TestP16_4_TheCache(t *testing.T) {
	g := stock(2)
	others := strangers(2, 128, g.blobs...)
	changed := g.results[1]
	changed.Code = 1
	for _, x := range []struct {
		what   string
		held   []string
		ours   []api.Result
		beside []api.FileBytes
		policy int
		code   api.Errno
		id     api.ID
	}{
		{"no table", nil, nil, []api.FileBytes{of("c.a.table", "none")}, api.Keep, api.ErrCache, api.ID{}},
		{"a clash", []string{clash(2, pallet)}, nil, nil, api.Keep, api.ErrCollision, g.id(pallet)},
		{"a conflict", nil, []api.Result{changed}, nil, api.Fail, api.ErrConflict, changed.Action},
		{"actions", nil, resultsFrom(100, 32, api.ID{}), nil, api.Take, api.ErrActions, api.ID{}},
		{"blobs", others, nil, nil, api.Keep, api.ErrBlobs, api.ID{}},
	} {
		s := shelved(t, g, x.held, x.ours, x.beside...)
		s.wantRefused(t, x.what, taking(s.reader(t, "f.x"), g.results, g.ids(), x.policy), x.code, x.id)
	}
}

// The journal: what was handed in, and the table that will be.
func TestP16_4_TheJournal(t *testing.T) {
	g := stock(32)
	own, coded := res(1, g.results[2].Root, 9), g.results[1]
	coded.Code = 3
	need := g.needOf(g.results[1])
	for policy, kept := range map[int]api.Result{api.Keep: coded, api.Take: g.results[1]} {
		s := shelved(t, g, nil, []api.Result{own, coded})
		s.disk.Plan(api.Plan{From: 6, To: 6})
		s.want(t, "no room", taking(s.reader(t, "f.x"), g.results[1:2], need, policy), api.ErrFull, need[0])
		want := g.journal(64, own, kept)
		want.Results, want.Need = g.results[1:2], need
		s.wantJournal(t, fmt.Sprint("policy ", policy), want)
	}
}

// No room, and too many files, for the journal.
func TestP16_4_NoRoomForTheJournal(t *testing.T) {
	g := stock(32)
	need := g.needOf(g.results[1])
	for _, plan := range []api.Plan{{From: 1, To: 1}, {From: 2, To: 2}, {From: 1, To: 99}} {
		s := shelved(t, g, g.blobs[:1], g.results[2:3])
		before := s.disk.Files()
		s.disk.Plan(plan)
		s.want(t, fmt.Sprint(plan), taking(s.reader(t, "f.x"), g.results[1:2], need, api.Keep), api.ErrFull, api.ID{})
		if s.cache.Pending() || !sameFiles(s.disk.Files(), before) || !sameFiles(s.disk.Safe(), before) {
			t.Errorf("%v: %s", plan, show(s.disk.Files()))
		}
	}
	s := shelved(t, g, nil, nil, manyFiles(api.MaxFiles-1)...)
	s.wantAsTheWordsSay(t, "files", taking(s.reader(t, "f.x"), g.results[1:2], need, api.Keep))
	if s.cache.Pending() || len(s.disk.List("+")) > 0 {
		t.Error("something is left")
	}
}

// A Reader of another disk: the bundle is looked for on the cache's own.
func TestP16_4_AnotherDisk(t *testing.T) {
	g := stock(32)
	data := g.bundle(64)
	other := mustLoad(t, api.MaxRoom, of("f.x", data), of("f.z", "theirs"))
	before := other.Twin()
	r := readerOn(t, other, "f.x", 32)
	for what, x := range map[string]struct {
		files []api.FileBytes
		want  api.Errno
		held  int
	}{
		"the same file":     {[]api.FileBytes{of("f.x", data)}, api.OK, 6},
		"no file":           {nil, api.ErrOther, 0},
		"no bundle":         {[]api.FileBytes{of("f.x", "none")}, api.ErrOther, 0},
		"another size":      {[]api.FileBytes{of("f.x", g.bundle(65))}, api.ErrOther, 0},
		"a bundle of none":  {[]api.FileBytes{of("f.x", goods{32, nil, nil}.bundle(64))}, api.ErrOther, 0},
		"under other names": {[]api.FileBytes{of("f.y", data), of("x", data)}, api.ErrOther, 0},
	} {
		s := stored(t, 32, nil, nil, x.files...)
		s.want(t, what, taking(r, g.results, g.ids(), api.Keep), x.want, api.ID{})
		if ids, err := s.cache.Blobs(); err != nil || len(ids) != x.held || s.cache.Pending() == (x.want == api.OK) {
			t.Errorf("%s: %d blobs, open %t", what, len(ids), s.cache.Pending())
		}
		if x.want != api.OK {
			s.wantJournal(t, what, g.journal(64, g.results...))
			s.hand(t, "f.x", data)
			s.want(t, what+", carried there", resuming(), api.OK, api.ID{})
		}
		s.wantHolds(t, what, g.blobs, g.results)
	}
	wantSameDisk(t, "the other disk", other, before)
}

// A file that was another when the Reader was opened: the Reader's sums are in the
// journal.
func TestP16_4_AFormerFile(t *testing.T) {
	g := stock(32)
	s := shelved(t, g, nil, nil)
	r := s.reader(t, "f.x")
	s.hand(t, "f.x", goods{32, strangers(32, 3), nil}.bundle(16))
	s.want(t, "of no blobs", taking(r, nil, nil, api.Keep), api.ErrOther, api.ID{})
	want := g.journal(64)
	want.Results, want.Need = nil, nil
	s.wantJournal(t, "of no blobs", want)
}

// A Reader of another width than the cache's.
func TestP16_4_AnotherWidth(t *testing.T) {
	g := stock(8)
	s := stored(t, 9, nil, nil, of("f.x", g.bundle(64)))
	r := readerOn(t, s.disk, "f.x", 8)
	s.wantRefused(t, "blobs", taking(r, g.results, g.ids(), api.Keep), api.ErrDigest, g.ids()[0])
	s.want(t, "no blobs", taking(r, nil, nil, api.Keep), api.ErrOther, api.ID{})
}

// A need that lacks one: the import is open, and the id is told.
func TestP16_4_WithoutOne(t *testing.T) {
	g := stock(32)
	for k, id := range g.ids() {
		s := shelved(t, g, nil, nil)
		need := slices.Delete(g.ids(), k, k+1)
		s.want(t, fmt.Sprint("without ", k), taking(s.reader(t, "f.x"), g.results, need, api.Keep), api.ErrOther, id)
		if !s.cache.Pending() {
			t.Error("none is open")
		}
		s.wantHolds(t, fmt.Sprint("without ", k), slices.Delete(g.inOrder(), k, k+1), nil)
	}
}

// Nothing of the bundle is read but its trailer, head, entries and index, and the
// blocks of the need, also where a blob of the bundle has the zero id or ids near
// it.
func TestP0_8_WhatIsRead(t *testing.T) {
	g := goods{width: 1}
	first, other := "", ""
	for i := 0; first == "" || other == ""; i++ {
		switch blob := fmt.Sprintf("%040d", i); idOf(1, blob)[0] {
		case 0:
			first = blob
		case 200:
			other = blob
		}
	}
	g.blobs = []string{first, other}
	s := stored(t, 1, nil, nil, of("f.x", g.bundle(16)))
	face := faceOf(g.bundle(16), 1)
	if face.Blobs[0].ID != (api.ID{}) {
		t.Fatal("no zero id")
	}
	r := s.reader(t, "f.x")
	s.disk.Look()
	s.want(t, "a part", taking(r, nil, []api.ID{{200}}, api.Keep), api.OK, api.ID{})
	spared := face.Blocks[1] // of the first blob alone
	for _, span := range s.disk.Reads() {
		if span.Name == "f.x" && span.At < spared.At+spared.Packed && span.At+span.N > face.Blocks[0].At {
			t.Errorf("%v was read", span)
		}
	}
}
