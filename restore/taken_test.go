package restore_test

import (
	"fmt"
	"slices"
	"testing"

	"freight/api"
	"freight/intake"
)

// Each set of the results, over caches that have nothing, something and all of it.
func TestP17_2_Taken(t *testing.T) {
	g := stock(32)
	for _, held := range [][]string{nil, {pallet, "more"}, g.blobs} {
		for set := range 1 << len(g.results) {
			for _, policy := range policies() {
				s := shelved(t, g, held, nil)
				part := g.part(some(g.results, set)...)
				s.want(t, fmt.Sprint("set ", set), ask{"f.x", actionsOf(part.results...), policy}, api.OK, api.ID{})
				for _, b := range held {
					if !slices.Contains(part.blobs, b) {
						part.blobs = append(part.blobs, b)
					}
				}
				s.wantHolds(t, fmt.Sprint("set ", set), part.blobs, part.results)
				s.wantOver(t, fmt.Sprint("set ", set))
			}
		}
	}
}

// Blobs of one id, unlike: of the least id that clashes, among those that are
// needed; under no policy does anything come.
func TestP17_2_Clashes(t *testing.T) {
	for _, width := range []int{1, 2} {
		g := stock(width)
		need := g.needOf(g.results[1])
		var others []string
		for _, b := range g.blobs {
			others = append(others, clash(width, b))
		}
		for set := 1; set < 1<<len(g.blobs); set++ {
			held := some(others, set)
			clashing := slices.DeleteFunc(idsOf(width, held...), func(id api.ID) bool { return !slices.Contains(need, id) })
			s := shelved(t, g, held, nil)
			for _, policy := range policies() {
				a := ask{"f.x", acts(12), policy}
				if len(clashing) > 0 {
					s.wantRefused(t, fmt.Sprint("set ", set), a, api.ErrCollision, rising(clashing...)[0])
					continue
				}
				s.want(t, fmt.Sprint("set ", set), a, api.OK, api.ID{})
			}
			for _, b := range held {
				if got, err := s.cache.Get(g.id(b)); err != nil || string(got) != b {
					t.Errorf("set %d: %q, %v, want %q", set, got, err, b)
				}
			}
		}
	}
}

// Unlike results: of the picked actions alone, of the least one under Fail; under
// Keep the cache's stays, under Take the bundle's comes.
func TestP17_2_Conflicts(t *testing.T) {
	g := stock(32)
	for unlike := range 1 << len(g.results) {
		var ours []api.Result
		for _, r := range some(g.results, unlike) {
			ours = append(ours, api.Result{Action: r.Action, Root: r.Root, Code: r.Code ^ 1})
		}
		for set := range 1 << len(g.results) {
			picked := some(g.results, set)
			kept, _ := unionByWords(ours, picked, api.Keep)
			taken, _ := unionByWords(ours, picked, api.Take)
			for policy, want := range map[int][]api.Result{api.Keep: kept, api.Take: taken, api.Fail: kept} {
				s := shelved(t, g, g.blobs, ours)
				a := ask{"f.x", actionsOf(picked...), policy}
				if both := some(g.results, set&unlike); policy == api.Fail && len(both) > 0 {
					s.wantRefused(t, fmt.Sprint(unlike, set), a, api.ErrConflict, both[0].Action)
					want = ours
				} else {
					s.want(t, fmt.Sprint(unlike, set), a, api.OK, api.ID{})
				}
				s.wantHolds(t, fmt.Sprint(unlike, set), g.blobs, want)
				s.wantOver(t, fmt.Sprint(unlike, set))
			}
		}
	}
}

// Another root is a conflict, too; like results are none.
func TestP17_2_AnotherRoot(t *testing.T) {
	g := stock(32)
	ours := []api.Result{g.results[0], {Action: act(12), Root: g.results[0].Root, Code: g.results[1].Code}, g.results[3]}
	s := shelved(t, g, nil, ours)
	s.wantRefused(t, "Fail", ask{"f.x", acts(11, 12, 14), api.Fail}, api.ErrConflict, act(12))
	s.want(t, "alike", ask{"f.x", acts(11, 14), api.Fail}, api.OK, api.ID{})
	s.want(t, "Keep", ask{"f.x", acts(12), api.Keep}, api.OK, api.ID{})
	s.wantHolds(t, "Keep", g.part(g.results[0]).blobs, ours)
	s.want(t, "Take", ask{"f.x", acts(12), api.Take}, api.OK, api.ID{})
	s.wantHolds(t, "Take", g.part(g.results[0]).blobs, []api.Result{g.results[0], g.results[1], g.results[3]})
}

// A table that is none, and one that is full.
func TestP17_2_TheTable(t *testing.T) {
	g := stock(32)
	for _, data := range []string{"", "none", "\x01", "\x80\x00"} {
		s := shelved(t, g, nil, nil, of("c.a.table", data))
		for _, actions := range [][]api.ID{acts(11), nil} {
			s.wantRefused(t, "no table", ask{"f.x", actions, api.Keep}, api.ErrCache, api.ID{})
		}
	}
	for own := 29; own <= 32; own++ {
		s := shelved(t, g, nil, resultsFrom(100, own, api.ID{}))
		for set := range 1 << len(g.results) {
			picked := some(g.results, set)
			w := opened(t, s.disk.Twin(), "a", 32)
			if a := (ask{"f.x", actionsOf(picked...), api.Take}); own+len(picked) > 32 {
				w.wantRefused(t, "too many", a, api.ErrActions, api.ID{})
			} else {
				w.want(t, "as many as there may be", a, api.OK, api.ID{})
			}
		}
	}
	full := append(slices.Clone(g.results), resultsFrom(100, 28, api.ID{})...)
	s := shelved(t, g, nil, full)
	s.want(t, "like results", ask{"f.x", acts(11, 12, 13, 14), api.Fail}, api.OK, api.ID{})
	s.wantHolds(t, "like results", g.blobs, full)
}

// Files of blobs: as many as there may be, and one more; damage is among them; what
// has a file already does not count again.
func TestP17_2_TooManyBlobs(t *testing.T) {
	g := stock(32)
	need := g.needOf(g.results[1])
	for more := range 4 {
		others := strangers(32, 128-3+more)
		s := shelved(t, g, others, nil)
		if more == 0 {
			s.want(t, "128", ask{"f.x", acts(12), api.Keep}, api.OK, api.ID{})
			s.wantHolds(t, "128", append(others, g.blobsOf(need)...), g.results[1:2])
			continue
		}
		s.wantRefused(t, "too many", ask{"f.x", acts(12), api.Keep}, api.ErrBlobs, api.ID{})
	}
	others := strangers(32, 127)
	s := shelved(t, g, append(slices.Clone(others[:124]), g.blobsOf(need)...), nil, of(blobName("a", api.ID{7}), "damage"))
	s.want(t, "all are there", ask{"f.x", acts(12), api.Keep}, api.OK, api.ID{})
	s.wantRefused(t, "one more", ask{"f.x", acts(13), api.Keep}, api.ErrBlobs, api.ID{})
	over := shelved(t, g, append(slices.Clone(others), g.blobsOf(need)...), nil)
	over.want(t, "there are more already", ask{"f.x", acts(12), api.Keep}, api.OK, api.ID{})
}

// What lies in a needed blob's file and is not that blob is replaced.
func TestP17_2_Damage(t *testing.T) {
	g := stock(32)
	need := g.needOf(g.results[1])
	for _, data := range []string{"", "damage", times(5000, "d")} {
		for k, id := range need {
			beside := []api.FileBytes{of(blobName("a", id), data), of(blobName("a", api.ID{7}), data)}
			s := stored(t, 32, nil, nil, append(beside, of("f.x", g.bundle(16)))...)
			s.want(t, fmt.Sprint("damage ", k), ask{"f.x", acts(12), api.Keep}, api.OK, api.ID{})
			if got, err := s.cache.Get(id); err != nil || string(got) != g.blobsOf(need)[k] {
				t.Errorf("damage %d: %q, %v", k, got, err)
			}
			if left, _ := shown(s.disk, blobName("a", api.ID{7})); left != data {
				t.Errorf("damage %d: what was not needed is %.10q", k, left)
			}
		}
	}
}

// No room at each of the strokes: for the journal nothing has changed, for a blob
// its id is told, for the table none; the import is open then, and goes on.
func TestP17_2_NoRoom(t *testing.T) {
	g := stock(32)
	picked := g.results[1:2]
	own := []api.Result{res(1, g.results[0].Root, 9)}
	need := g.needOf(picked...)
	whole := shelved(t, g, nil, own)
	whole.want(t, "with room", ask{"f.x", acts(12), api.Keep}, api.OK, api.ID{})
	strokes := whole.disk.Strokes()
	if strokes != 5+3*5+5+2 {
		t.Fatalf("%d strokes", strokes)
	}
	for at := 1; at <= strokes; at++ {
		s := shelved(t, g, nil, own)
		before := s.disk.Files()
		s.disk.Plan(api.Plan{From: at, To: at})
		part, place := (at-1)/5, (at-1)%5
		what := fmt.Sprint("no room at ", at)
		a := ask{"f.x", acts(12), api.Keep}
		switch {
		case place > 1 || part == 5:
			s.want(t, what, a, api.OK, api.ID{})
			s.wantOver(t, what)
			continue
		case part == 0:
			s.want(t, what, a, api.ErrFull, api.ID{})
			if !sameFiles(s.disk.Files(), before) || !sameFiles(s.disk.Safe(), before) {
				t.Errorf("%s: %s", what, show(s.disk.Files()))
			}
			s.wantOver(t, what)
			continue
		case part < 4:
			s.want(t, what, a, api.ErrFull, need[part-1])
		default:
			s.want(t, what, a, api.ErrFull, api.ID{})
		}
		s.wantJournal(t, what, g.journal(64, picked, own[0], picked[0]))
		if err := intake.Resume(s.cache); err != nil || !sameFiles(s.disk.Files(), whole.disk.Files()) {
			t.Errorf("%s, resumed: %v", what, err)
		}
	}
}

// As many files as there may be: for the journal, for a blob, for the table.
func TestP17_2_TooManyFiles(t *testing.T) {
	g := stock(32)
	need := g.needOf(g.results[1])
	for room := range 7 {
		s := shelved(t, g, nil, nil, manyFiles(api.MaxFiles-1-room)...)
		a := ask{"f.x", acts(12), api.Keep}
		switch {
		case room == 0:
			s.want(t, "the journal", a, api.ErrFiles, api.ID{})
			s.wantOver(t, "the journal")
		case room < 4:
			s.want(t, "a blob", a, api.ErrFiles, need[room-1])
		case room == 4:
			s.want(t, "the table", a, api.ErrFiles, api.ID{})
		default:
			s.want(t, "all of them", a, api.OK, api.ID{})
		}
	}
}

// The room itself: each size of the disk up to one that is enough.
func TestP17_2_EachRoom(t *testing.T) {
	g := stock(8)
	data := g.bundle(64)
	met := map[said]int{}
	for room := len(data); room < len(data)+1200; room += 7 {
		s := opened(t, mustLoad(t, room, of("f.x", data)), "a", 8)
		got := s.wantAsTheWordsSay(t, fmt.Sprint("room ", room), ask{"f.x", acts(11), api.Keep})
		met[got]++
		if s.cache.Pending() == (got.code == api.OK || got.id == api.ID{} && len(s.disk.Files()) == 1) {
			t.Errorf("room %d: %v, open %t", room, got, s.cache.Pending())
		}
	}
	need := g.needOf(g.results[0])
	for _, want := range []said{{}, {code: api.ErrFull}, {api.ErrFull, need[0]}, {api.ErrFull, need[len(need)-1]}} {
		if met[want] == 0 {
			t.Errorf("%v is not met: %v", want, met)
		}
	}
}

// A bundle in one of the cache's own files: the list of chapter 16 is followed as it
// stands.
func TestP17_2_InTheCachesFiles(t *testing.T) {
	g := stock(32)
	data := g.bundle(16)
	s := stored(t, 32, nil, nil, of("c.a.table", data))
	s.wantRefused(t, "the table", ask{"c.a.table", acts(12), api.Keep}, api.ErrCache, api.ID{})
	s = stored(t, 32, nil, nil)
	s.hand(t, "+c.a.import", data)
	s.want(t, "the journal's draft", ask{"+c.a.import", acts(12), api.Keep}, api.ErrOther, api.ID{})
	if !s.cache.Pending() {
		t.Error("none is open")
	}
	for k, id := range g.needOf(g.results[0]) {
		s = stored(t, 32, nil, nil, of(blobName("a", id), data))
		s.wantAsTheWordsSay(t, fmt.Sprint("the blob ", k), ask{blobName("a", id), acts(11), api.Keep})
	}
}
