package restore_test

import (
	"fmt"
	"slices"
	"testing"

	"freight/api"
	"freight/intake"
)

// readBehind are the spans of the bundle's file that a restore reads.
func (s *store) readBehind(a ask) ([]api.Span, error) {
	s.disk.Look()
	err := a.of(s)
	return slices.DeleteFunc(s.disk.Reads(), func(span api.Span) bool { return span.Name != a.file }), err
}

// distinct are spans in their order, each once.
func distinct(spans []api.Span) []api.Span {
	sorted := slices.Clone(spans)
	slices.SortFunc(sorted, func(a, b api.Span) int { return slices.Compare([]int{a.At, a.N}, []int{b.At, b.N}) })
	return slices.Compact(sorted)
}

// apart is a bundle of several results, each with blobs of its own beside a shared
// one: some long, some short, some of no bytes, some that nothing needs.
func apart(width int) goods {
	g := goods{width: width, blobs: []string{"", crate}}
	for k := range 6 {
		var own []string
		for n := range k + 1 {
			own = append(own, fmt.Sprintf("%d.%d %s", k, n, times(k*n*9, "freight ")[:k*n*37]))
		}
		inner := filesTree(width, append(own, "")...)
		outer := treeOf(aFolder(idOf(width, inner)), aRun(idOf(width, crate)), aFile(idOf(width, "")))
		g.blobs = append(append(g.blobs, own...), inner, outer)
		g.results = append(g.results, res(byte(10+k), idOf(width, outer), k))
	}
	bare := treeOf(aFile(idOf(width, "")))
	g.blobs = append(append(g.blobs, bare, treeOf()), strangers(width, 10)...)
	g.results = append(g.results, res(30, idOf(width, bare), 0), res(31, idOf(width, treeOf()), 0))
	return g
}

// What is read is the frame and the blocks of the need: no other, and all of these.
func TestP17_3_JustTheNeed(t *testing.T) {
	g := apart(32)
	for _, size := range []int{16, 17, 64, 100, 1000, 4096} {
		data := g.bundle(size)
		face := faceOf(data, 32)
		partial := 0
		for set := range 1 << len(g.results) {
			if set > 20 && set%7 > 0 {
				continue
			}
			picked := some(g.results, set)
			s := stored(t, 32, nil, nil, of("f.x", data))
			reads, err := s.readBehind(ask{"f.x", actionsOf(picked...), api.Fail})
			need := blocksOf(packed{face: face, name: "f.x"}, g.needOf(picked...))
			if want := distinct(append(frame("f.x", data), need...)); err != nil || !slices.Equal(distinct(reads), want) {
				t.Fatalf("size %d, set %d: %v, %v, want %v", size, set, distinct(reads), err, want)
			}
			if len(distinct(need)) < len(face.Blocks) {
				partial++
			}
		}
		if size <= 100 && partial < 50 || size <= 1000 && partial == 0 {
			t.Errorf("size %d: %d sets need but a part", size, partial)
		}
	}
}

// An import of the same bundle reads the rest, too: what is asked for here can be
// broken.
func TestP17_3_AnImportReadsMore(t *testing.T) {
	g := apart(32).part(apart(32).results...)
	s := stored(t, 32, nil, nil, of("f.x", g.bundle(16)))
	allowed := words{s.disk, "a", 32}.readsOf("f.x", acts(12), api.Keep)
	s.disk.Look()
	if err := intake.Import(s.cache, "f.x", api.Keep); err != nil || len(outside(s.disk.Reads(), "f.x", allowed)) == 0 {
		t.Errorf("%v, and it read %v", err, s.disk.Reads())
	}
}

// Blobs of no bytes are in no block.
func TestP17_3_NoBytes(t *testing.T) {
	g := apart(32)
	data := g.bundle(16)
	face := faceOf(data, 32)
	s := stored(t, 32, nil, nil, of("f.x", data))
	reads, err := s.readBehind(ask{"f.x", acts(30), api.Keep})
	at := slices.IndexFunc(face.Blobs, func(p api.Place) bool { return p.ID == g.results[6].Root })
	want := frame("f.x", data)
	for _, k := range covering(face, face.Blobs[at]) {
		want = append(want, api.Span{Name: "f.x", At: face.Blocks[k].At, N: face.Blocks[k].Packed})
	}
	if err != nil || !slices.Equal(distinct(reads), distinct(want)) {
		t.Errorf("%v, %v, want %v", distinct(reads), err, distinct(want))
	}
	s.wantHolds(t, "of no bytes", []string{"", treeOf(aFile(idOf(32, "")))}, g.results[6:7])
}

// Refused at its 1 to 3: nothing of the file.
func TestP17_3_BehindTheArguments(t *testing.T) {
	g := stock(32)
	open, dark, good := shelved(t, g, nil, nil, of("c.a.import", "open")), shelved(t, g, nil, nil), shelved(t, g, nil, nil)
	darken(t, dark.disk)
	for what, x := range map[string]struct {
		s *store
		ask
	}{
		"policy": {good, ask{"f.x", acts(11), 0}},
		"off":    {dark, ask{"f.x", acts(11), api.Keep}},
		"open":   {open, ask{"f.x", acts(11), api.Keep}},
	} {
		if reads, err := x.s.readBehind(x.ask); err == nil || len(reads) > 0 {
			t.Errorf("%s: %v, %v", what, reads, err)
		}
	}
}

// Refused at its 4: the frame, as far as it was good.
func TestP17_3_NoBundle(t *testing.T) {
	g := stock(32)
	for what, x := range noBundles(g) {
		s := stored(t, 32, nil, nil, of("f.x", x.data))
		reads, err := s.readBehind(ask{"f.x", acts(11), api.Keep})
		if api.Code(err) != x.want {
			t.Errorf("%s: %v", what, err)
		}
		var allowed []api.Span
		if len(x.data) > 42 && len(x.data) <= api.MaxFile {
			allowed = frame("f.x", x.data)
		}
		wantWithin(t, what, reads, "f.x", allowed)
	}
}

// Refused at its 5: the frame alone.
func TestP17_3_NoAction(t *testing.T) {
	g := stock(32)
	s := shelved(t, g, nil, nil)
	data := g.bundle(64)
	for _, actions := range [][]api.ID{acts(1), acts(11, 1), acts(99, 11, 12)} {
		reads, err := s.readBehind(ask{"f.x", actions, api.Keep})
		if api.Code(err) != api.ErrNoAction || !slices.Equal(distinct(reads), distinct(frame("f.x", data))) {
			t.Errorf("%v, %v", reads, err)
		}
	}
}

// Refused at its 6: the trees that were found, and what they name, as far as it
// went: what is not asked for behind a block that is spoilt is not read.
func TestP17_3_NotWhole(t *testing.T) {
	g, want := broken(32)
	data := g.bundle(16)
	face := faceOf(data, 32)
	for action, x := range want {
		picked := g.results[action-1 : action]
		found := follow(g.get, picked)
		s := stored(t, 32, nil, nil, of("f.x", data))
		reads, err := s.readBehind(ask{"f.x", acts(action), api.Keep})
		allowed := append(frame("f.x", data), blocksOf(packed{face: face, name: "f.x"}, found.asked)...)
		if api.Code(err) != x.code {
			t.Errorf("action %d: %v", action, err)
		}
		wantWithin(t, fmt.Sprint("action ", action), reads, "f.x", allowed)
		for k, id := range found.asked {
			if _, code := g.get(id); code != api.OK || len(ownBlocks(face, id)) == 0 {
				continue
			}
			s := stored(t, 32, nil, nil, of("f.x", spoilt(data, 32, id)))
			reads, err := s.readBehind(ask{"f.x", acts(action), api.Keep})
			allowed := append(frame("f.x", data), blocksOf(packed{face: face, name: "f.x"}, found.asked[:k+1])...)
			if api.Code(err) != api.ErrBlock {
				t.Errorf("action %d, spoilt: %v", action, err)
			}
			wantWithin(t, fmt.Sprint("action ", action, ", spoilt"), reads, "f.x", allowed)
		}
	}
}

// Refused at its 7: the need's blocks, and no more.
func TestP17_3_NotTaken(t *testing.T) {
	for turn := range 4 {
		for _, w := range wrongs(turn)[9:] {
			l := newLot()
			w.spoil(l)
			s := l.made(t)
			allowed := words{s.disk.Twin(), "a", wrongWidth}.readsOf(l.file, l.actions, l.policy)
			reads, err := s.readBehind(l.ask)
			if api.Code(err) != w.code {
				t.Errorf("%d: %v", w.code, err)
			}
			wantWithin(t, fmt.Sprint(w.code), reads, "f.x", allowed)
		}
	}
}

// Where the cache has all of it already: no more is read either.
func TestP17_3_NothingNew(t *testing.T) {
	g := apart(32)
	for k, r := range g.results {
		s := shelved(t, g, g.blobs, g.results)
		allowed := words{s.disk, "a", 32}.readsOf("f.x", actionsOf(r), api.Keep)
		reads, err := s.readBehind(ask{"f.x", actionsOf(r), api.Keep})
		if err != nil || s.disk.Strokes() != 7 {
			t.Errorf("result %d: %v, %d strokes", k, err, s.disk.Strokes())
		}
		wantWithin(t, fmt.Sprint("result ", k), reads, "f.x", allowed)
	}
}

// A Resume behind a cut, at each stroke: as the restore.
func TestP17_3_Resumed(t *testing.T) {
	g := apart(32)
	data := g.bundle(16)
	face := faceOf(data, 32)
	for k, r := range g.results {
		whole := stored(t, 32, nil, nil, of("f.x", data))
		if err := (ask{"f.x", actionsOf(r), api.Take}).of(whole); err != nil {
			t.Fatal(err)
		}
		allowed := append(frame("f.x", data), blocksOf(packed{face: face, name: "f.x"}, g.needOf(r))...)
		for at := 1; at <= whole.disk.Strokes(); at++ {
			s := stored(t, 32, nil, nil, of("f.x", data))
			s.disk.Plan(api.Plan{Off: at})
			ask{"f.x", actionsOf(r), api.Take}.of(s)
			s.disk.Crash(slices.Repeat([]int{-1}, 60)...)
			s = opened(t, s.disk, "a", 32)
			if !s.cache.Pending() {
				continue
			}
			s.disk.Look()
			if err := intake.Resume(s.cache); err != nil {
				t.Errorf("result %d, off at %d: %v", k, at, err)
			}
			wantWithin(t, fmt.Sprint("result ", k, ", off at ", at), s.disk.Reads(), "f.x", allowed)
		}
	}
}
