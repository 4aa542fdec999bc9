package export_test

import (
	"bytes"
	"encoding/hex"
	"fmt"
	"slices"
	"testing"

	"freight/api"
	"freight/bundle"
	"freight/cache"
	"freight/disk"
	"freight/export"
	"freight/reader"
)

// sets are all sets of the stock's actions.
func sets() [][]api.ID {
	var list [][]api.ID
	for set := range 16 {
		var actions []api.ID
		for k := range 4 {
			if set>>k&1 == 1 {
				actions = append(actions, act(byte(k+1)))
			}
		}
		list = append(list, actions)
	}
	return list
}

// wantGood asks for P14.3 of what Build answers.
func (s *store) wantGood(t *testing.T, what string, actions []api.ID, size int) {
	t.Helper()
	face, blobs := held(t, s.mustBuild(t, actions, size), s.width)
	if face.Width != s.width || face.Size != size {
		t.Errorf("%s: width %d, size %d", what, face.Width, face.Size)
	}
	results, _ := s.cache.Table()
	results = slices.DeleteFunc(results, func(r api.Result) bool { return !slices.Contains(actions, r.Action) })
	if !slices.Equal(face.Results, results) {
		t.Errorf("%s: results %v, want %v", what, face.Results, results)
	}
	need, _ := needByWords(thereByWords(s.disk, s.name, s.width), results)
	if len(blobs) != len(need) {
		t.Errorf("%s: %d blobs, want %d", what, len(blobs), len(need))
	}
	for id := range need {
		want, err := s.cache.Get(id)
		if got, is := blobs[id]; err != nil || !is || got != string(want) {
			t.Errorf("%s: %x: %.20q, want %.20q", what, id[:3], got, want)
		}
	}
}

func TestP14_3_AGoodBundle(t *testing.T) {
	for _, width := range []int{1, 2, 8, 31, 32} {
		s := stored(t, stock(width), of("c.a.b.zz", "nobody's"))
		s.hand(t, blobName("a", idOf(width, "more")), "more")
		for _, actions := range sets() {
			for _, size := range []int{api.MinBlock, 17, 64, api.MaxBlock} {
				s.wantGood(t, fmt.Sprint("width ", width, ", ", len(actions), " actions, size ", size), actions, size)
			}
		}
	}
}

// What is exported is read by chapter 13, blob by blob.
func TestP14_3_ReadFromItsFile(t *testing.T) {
	s := stored(t, stock(8))
	for _, actions := range sets() {
		if err := export.Export(s.cache, actions, 32, "f.b"); err != nil {
			t.Fatal(err)
		}
		r, err := reader.Open(s.disk, "f.b", 8)
		if err != nil {
			t.Fatal(err)
		}
		for id, blob := range r.Blobs() {
			if want, err := s.cache.Get(id); err != nil || !bytes.Equal(blob, want) {
				t.Errorf("%x: %.20q, want %.20q", id[:3], blob, want)
			}
		}
	}
}

// others are caches that hold the stock's need alike, and have otherwise all
// unlike: the order in which they were filled, the disk, the name, what lies
// beside.
func others(t *testing.T, width int) map[string]*store {
	g := stock(width)
	list := map[string]*store{"as it is": stored(t, g)}
	for what, order := range map[string][]int{"in order": {0, 1, 2, 3, 4, 5}, "backwards": {5, 4, 3, 2, 1, 0}, "mixed": {3, 0, 5, 1, 4, 2}} {
		s := opened(t, mustLoad(t, 20000), "b", width)
		for _, k := range order {
			mustPut(t, s.cache, g.blobs[k])
		}
		for _, k := range order {
			if k < len(g.results) {
				mustSet(t, s.cache, g.results[k])
			}
		}
		list[what] = s
	}
	list["much beside"] = muchBeside(t, g)
	list["by detours"] = byDetours(t, g)
	return list
}

func mustPut(t *testing.T, c *cache.Cache, blob string) {
	t.Helper()
	if _, err := c.Put([]byte(blob)); err != nil {
		t.Fatal(err)
	}
}

func mustSet(t *testing.T, c *cache.Cache, r api.Result) {
	t.Helper()
	if err := c.Set(r); err != nil {
		t.Fatal(err)
	}
}

// muchBeside has more results and blobs, damage, drafts, an open import, and
// another cache of the same blobs.
func muchBeside(t *testing.T, g goods) *store {
	more := treeOf(aFolder(g.id(g.blobs[4])), aFile(g.id(pallet)))
	beside := slices.Concat(g.files("a"), []api.FileBytes{
		of("+x", "x"), of("x", "x"), of("c.long-name.import", ""), of("c.long-name.b.0", crate),
	})
	g = g.with([]string{more, "more"}, res(0, g.id(more), 1), res(200, g.id("lacking"), 2), res(201, g.id(pallet), 3))
	d := mustLoad(t, 50000, slices.Concat(g.files("long-name"), beside)...)
	s := opened(t, d, "long-name", g.width)
	s.damage(t, api.ID{123}, "damage")
	return s
}

// byDetours had other blobs and results, was damaged, and crashed.
func byDetours(t *testing.T, g goods) *store {
	s := stored(t, g)
	mustSet(t, s.cache, res(1, g.results[2].Root, 1))
	mustSet(t, s.cache, res(77, g.results[2].Root, 1))
	mustPut(t, s.cache, "detour")
	s.damage(t, g.id(crate), "no crate")
	s.damage(t, g.id(g.blobs[3]), "no tree")
	if err := s.cache.Drop(g.id(pallet)); err != nil {
		t.Fatal(err)
	}
	s.disk.Plan(api.Plan{Off: 3})
	s.cache.Put([]byte("cut off"))
	s.disk.Crash(1, 2, 3)
	for _, b := range g.blobs {
		mustPut(t, s.cache, b)
	}
	mustSet(t, s.cache, g.results[0])
	return s
}

func TestP14_4_TheSameBytes(t *testing.T) {
	for _, width := range []int{1, 8, 32} {
		list := others(t, width)
		for _, actions := range sets() {
			for _, size := range []int{api.MinBlock, 64, api.MaxBlock} {
				want := list["as it is"].mustBuild(t, actions, size)
				for what, s := range list {
					if !bytes.Equal(s.mustBuild(t, actions, size), want) {
						t.Errorf("width %d, %d actions, size %d: %s: other bytes", width, len(actions), size, what)
					}
					if err := export.Export(s.cache, actions, size, "f.x"); err != nil {
						t.Errorf("%s: %v", what, err)
					}
					if got, _ := shown(s.disk, "f.x"); got != string(want) {
						t.Errorf("%s: another file", what)
					}
				}
			}
		}
	}
}

// What does say something: the width, the results, the blobs, the size.
func TestP14_4_OtherBytes(t *testing.T) {
	s := stored(t, stock(32))
	want := s.mustBuild(t, acts(1), 64)
	coded := stored(t, stock(32))
	mustSet(t, coded.cache, res(1, s.mustRoot(t, 1), 8))
	for what, other := range map[string][]byte{
		"a width":   stored(t, stock(31)).mustBuild(t, acts(1), 64),
		"a size":    s.mustBuild(t, acts(1), 65),
		"an action": s.mustBuild(t, acts(4), 64),
		"more":      s.mustBuild(t, acts(1, 4), 64),
		"a code":    coded.mustBuild(t, acts(1), 64),
	} {
		if bytes.Equal(other, want) {
			t.Errorf("%s: the same bytes", what)
		}
	}
}

// All bytes, however goroutines run, as often as it is asked.
func TestP14_4_AsOftenAsItIsAsked(t *testing.T) {
	s := stored(t, stock(32))
	want := s.mustBuild(t, acts(1, 2, 3, 4), 16)
	for range 300 {
		if !bytes.Equal(s.mustBuild(t, acts(4, 3, 2, 1), 16), want) {
			t.Fatal("other bytes")
		}
	}
}

// Chapter 12's first example, whatever the cache holds.
func TestP14_5_NoActions(t *testing.T) {
	want, _ := hex.DecodeString("667274200040" + "00000000" + "0000" + "0000000600000004" + "2144df1c" + "0000000a00000002" + "41d912ff" + "0000002b" + "747266")
	broken := stored(t, goods{32, nil, []api.Result{res(1, api.ID{9}, 0), res(2, api.ID{}, 0)}})
	broken.damage(t, api.ID{9}, "damage")
	for what, s := range map[string]*store{
		"an empty cache": opened(t, mustLoad(t, 1), "a", 32),
		"a full one":     stored(t, stock(32)),
		"a broken one":   broken,
	} {
		for _, none := range [][]api.ID{nil, {}, acts(1)[:0]} {
			if got := s.mustBuild(t, none, 64); !bytes.Equal(got, want) {
				t.Errorf("%s: %x, want %x", what, got, want)
			}
			s.wantGood(t, what, none, 64)
		}
	}
}

func TestP14_5_NoActionsOfEachWidth(t *testing.T) {
	for width := 1; width <= api.MaxWidth; width++ {
		s := stored(t, stock(width))
		for _, size := range []int{api.MinBlock, api.MaxBlock} {
			data := s.mustBuild(t, nil, size)
			face, err := bundle.Verify(data, width)
			if err != nil || len(face.Results)+len(face.Blobs)+len(face.Blocks) != 0 || len(data) != 43 {
				t.Errorf("width %d: %v, %v", width, face, err)
			}
			if s.wantExported(t, fmt.Sprint("width ", width), nil, size, "x") != api.OK {
				t.Errorf("width %d: refused", width)
			}
		}
	}
}

// Refused, the power being on: all files are as they were, but a draft that a Put
// without room has taken away.
func TestP14_6_Refused(t *testing.T) {
	for what, s := range lots(t) {
		before := s.disk.Files()
		for _, plan := range []api.Plan{{From: 1, To: 1}, {From: 2, To: 2}, {From: 3, To: 3}, {From: 1, To: 99}, {From: 2, To: 99}} {
			w := s.twin(t)
			w.disk.Plan(plan)
			if err := export.Export(w.cache, acts(1), 64, "x"); err == nil {
				continue
			} else if api.Code(err) != api.ErrFull {
				t.Errorf("%s, %v: %v", what, plan, err)
			}
			want := without(before, "+x")
			if !sameFiles(w.disk.Files(), want) || !sameFiles(w.disk.Safe(), want) {
				t.Errorf("%s, %v: %s, want %s", what, plan, show(w.disk.Files()), show(want))
			}
		}
		s.wantRefused(t, what, acts(9), 64, api.ErrNoAction, act(9))
		if !sameFiles(s.disk.Files(), before) || !sameFiles(s.disk.Safe(), before) {
			t.Errorf("%s: %s, want %s", what, show(s.disk.Files()), show(before))
		}
	}
}

// OK: the file has Build's bytes, all others are as they were, and every crash
// leaves it so.
func TestP14_6_OK(t *testing.T) {
	for what, s := range lots(t) {
		for _, actions := range sets() {
			w := s.twin(t)
			data := w.mustBuild(t, actions, 64)
			if err := export.Export(w.cache, actions, 64, "x"); err != nil {
				t.Fatalf("%s: %v", what, err)
			}
			if got, _ := shown(w.disk, "x"); got != string(data) {
				t.Errorf("%s: x has other bytes", what)
			}
			if !sameFiles(without(w.disk.Files(), "x"), without(s.disk.Files(), "x", "+x")) {
				t.Errorf("%s: %s", what, show(w.disk.Files()))
			}
			for _, picks := range crashes() {
				v := w.disk.Twin()
				v.Crash(picks...)
				if !sameFiles(v.Files(), w.disk.Files()) {
					t.Errorf("%s, Crash(%v): %s", what, picks, show(v.Files()))
				}
			}
		}
	}
}

// wantCutOff asks for what P6.6 lets a cut off Put leave behind a crash.
func wantCutOff(t *testing.T, what string, before []api.FileBytes, now *disk.Disk, data string) string {
	t.Helper()
	old := mustLoad(t, api.MaxRoom, before...)
	was, wasThere := shown(old, "x")
	draft, wasDraft := shown(old, "+x")
	got, isThere := shown(now, "x")
	left, isLeft := shown(now, "+x")
	asBefore := isThere == wasThere && got == was
	if !asBefore && (!isThere || got != data) {
		t.Errorf("%s: x is torn: %d bytes", what, len(got))
	}
	if isLeft && !(wasDraft && left == draft) && !bytes.HasPrefix([]byte(data), []byte(left)) {
		t.Errorf("%s: +x has %.20q", what, left)
	}
	if !sameFiles(without(now.Files(), "x", "+x"), without(before, "x", "+x")) {
		t.Errorf("%s: %s", what, show(now.Files()))
	}
	return fmt.Sprint("as before ", asBefore, ", a draft ", isLeft)
}

// The power goes off at each stroke, and all crashes come; behind them the same
// export is OK, and leaves what it would have left at once.
func TestP14_6_Crashes(t *testing.T) {
	met := map[string]int{}
	for what, s := range lots(t) {
		data := s.mustBuild(t, acts(1, 3), 64)
		before := s.disk.Files()
		done := s.twin(t)
		done.wantExported(t, what, acts(1, 3), 64, "x")
		for at := 1; at <= done.disk.Strokes(); at++ {
			w := s.twin(t)
			w.disk.Plan(api.Plan{Off: at})
			wantFault(t, what, export.Export(w.cache, acts(1, 3), 64, "x"), "export.export", "a", api.ErrOff, api.ID{})
			for _, picks := range crashes() {
				what := fmt.Sprint(what, ", off at ", at, ", Crash ", picks)
				v := w.twinCrashed(t, picks)
				met[wantCutOff(t, what, before, v.disk, string(data))]++
				if err := export.Export(v.cache, acts(1, 3), 64, "x"); err != nil {
					t.Errorf("%s, once more: %v", what, err)
				}
				if !sameFiles(v.disk.Files(), done.disk.Files()) || !sameFiles(v.disk.Safe(), done.disk.Files()) {
					t.Errorf("%s, once more: %s", what, show(v.disk.Files()))
				}
			}
		}
	}
	for _, asBefore := range []bool{true, false} {
		for _, draft := range []bool{true, false} {
			if asBefore || !draft { // the new bytes come by the draft's name
				if what := fmt.Sprint("as before ", asBefore, ", a draft ", draft); met[what] == 0 {
					t.Errorf("no crash left: %s", what)
				}
			}
		}
	}
}

// twinCrashed is a twin behind a crash. Behind it nothing of the cache is cut off,
// so its opening has no stroke.
func (s *store) twinCrashed(t testing.TB, picks []int) *store {
	t.Helper()
	d := s.disk.Twin()
	d.Crash(picks...)
	w := opened(t, d, s.name, s.width)
	if d.Strokes() != 0 {
		t.Fatal("it opens with a stroke")
	}
	return w
}

// The need without any one of its ids, dropped or damaged: no set of actions that
// needs it is exported, whatever size and file are; all others are.
func TestP14_7_WithoutAnyOne(t *testing.T) {
	for _, width := range []int{1, 8, 32} {
		g := stock(width)
		for _, blob := range g.blobs {
			for _, spoil := range []func(s *store){
				func(s *store) { s.away(t, blobName("a", g.id(blob))) },
				func(s *store) { s.damage(t, g.id(blob), "damage to "+blob) },
				func(s *store) { s.damage(t, g.id(blob), times(api.MaxBlob+1, "d")) },
			} {
				s := stored(t, g, of("x", "a former file"))
				good := s.twin(t)
				spoil(s)
				for _, actions := range sets() {
					s.wantWithout(t, good, actions, g.id(blob))
				}
			}
		}
	}
}

// wantWithout asks for refusals just if the id is of the need in the good cache.
func (s *store) wantWithout(t *testing.T, good *store, actions []api.ID, id api.ID) {
	t.Helper()
	for _, size := range []int{api.MinBlock, 64, api.MaxBlock} {
		data := good.mustBuild(t, actions, size)
		_, blobs := held(t, data, s.width)
		if _, is := blobs[id]; is {
			s.wantRefused(t, fmt.Sprintf("without %x", id[:3]), actions, size, api.ErrMissing, id)
		} else if !bytes.Equal(s.mustBuild(t, actions, size), data) {
			t.Errorf("without %x, which it does not need: other bytes", id[:3])
		}
	}
}

// Laid again, it is OK again, with the same bytes.
func TestP14_7_LaidAgain(t *testing.T) {
	g := stock(32)
	s := stored(t, g)
	want := s.mustBuild(t, acts(1), 64)
	for _, blob := range []string{crate, pallet, "", g.blobs[3], g.blobs[4]} {
		s.damage(t, g.id(blob), "damage to "+blob)
		s.wantRefused(t, "damage", acts(1), 64, api.ErrMissing, g.id(blob))
		mustPut(t, s.cache, blob)
		if !bytes.Equal(s.mustBuild(t, acts(1), 64), want) {
			t.Error("other bytes")
		}
	}
}

// Without one of the results.
func TestP14_7_WithoutAResult(t *testing.T) {
	g := stock(32)
	for k, gone := range g.results {
		s := stored(t, goods{32, g.blobs, slices.Delete(slices.Clone(g.results), k, k+1)})
		for _, actions := range sets() {
			if slices.Contains(actions, gone.Action) {
				s.wantRefused(t, "without a result", actions, 64, api.ErrNoAction, gone.Action)
			} else {
				s.wantBuilt(t, "without another result", actions, 64)
			}
		}
	}
}
