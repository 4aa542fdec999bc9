package intake_test

import (
	"fmt"
	"slices"
	"testing"

	"freight/api"
)

// begun is a store in which an import of the stock is open, of which n blobs were
// laid; its table would be the stock's.
func begun(t testing.TB, g goods, n int, beside ...api.FileBytes) *store {
	t.Helper()
	return shelved(t, g, g.inOrder()[:n], nil, append(beside, of("c.a.import", formByWords(g.journal(64, g.results...))))...)
}

// However much of it was done.
func TestP16_5_Resume(t *testing.T) {
	for _, width := range []int{1, 8, 32} {
		g := stock(width)
		for set := range 1 << len(g.blobs) {
			var held []string
			for k, b := range g.blobs {
				if set>>k&1 == 1 {
					held = append(held, b)
				}
			}
			for _, ours := range [][]api.Result{nil, g.results} {
				s := shelved(t, g, held, ours, of("c.a.import", formByWords(g.journal(64, g.results...))))
				s.want(t, fmt.Sprint("set ", set), resuming(), api.OK, api.ID{})
				s.wantHolds(t, fmt.Sprint("set ", set), g.blobs, g.results)
				if want := 5*(len(g.blobs)-len(held)) + 5 - 5*len(ours)/4 + 2; s.disk.Strokes() != want {
					t.Errorf("set %d: %d strokes, want %d", set, s.disk.Strokes(), want)
				}
			}
		}
	}
}

// The table is the journal's, whatever the cache's is and whatever comes of the
// journal's results; no policy is asked again.
func TestP16_5_TheJournalsTable(t *testing.T) {
	g := stock(32)
	own := res(1, g.results[0].Root, 1)
	changed := g.results[1]
	changed.Code = 9
	for _, table := range [][]api.Result{nil, {own}, {own, changed}, g.results, append([]api.Result{own}, g.results...), resultsFrom(7, 32, api.ID{9}), {res(250, api.ID{31: 1}, 255)}} {
		for _, held := range [][]api.Result{nil, {own}, {changed}, g.results, resultsFrom(100, 32, api.ID{5})} {
			s := shelved(t, g, nil, held, of("c.a.import", formByWords(g.journal(64, table...))))
			s.want(t, "resumed", resuming(), api.OK, api.ID{})
			s.wantHolds(t, "resumed", g.blobs, table)
			if want := 32 + map[bool]int{true: 0, false: 5}[slices.Equal(held, table)]; s.disk.Strokes() != want {
				t.Errorf("%d strokes, want %d", s.disk.Strokes(), want)
			}
		}
	}
}

// A table's file that is no table is put, also in the place of an empty table; one
// that is the journal's already is not.
func TestP16_5_NoTable(t *testing.T) {
	g := stock(32)
	for _, table := range [][]api.Result{nil, g.results} {
		for _, bad := range []string{"", "\x09", "\x80\x00", tableForm(g.results) + "\x00", times(5000, "t")} {
			s := shelved(t, g, g.blobs, nil, of("c.a.table", bad), of("c.a.import", formByWords(g.journal(64, table...))))
			s.want(t, fmt.Sprintf("%.5q", bad), resuming(), api.OK, api.ID{})
			s.wantHolds(t, fmt.Sprintf("%.5q", bad), g.blobs, table)
			if s.disk.Strokes() != 7 {
				t.Errorf("%.5q: %d strokes", bad, s.disk.Strokes())
			}
		}
		s := shelved(t, g, g.blobs, nil, of("c.a.table", tableForm(table)), of("c.a.import", formByWords(g.journal(64, table...))))
		s.want(t, "the same", resuming(), api.OK, api.ID{})
		if s.disk.Strokes() != 2 {
			t.Errorf("the same: %d strokes", s.disk.Strokes())
		}
	}
	s := shelved(t, g, g.blobs, nil, of("c.a.import", formByWords(g.journal(64))))
	s.want(t, "no file, an empty table", resuming(), api.OK, api.ID{})
	if _, is := shown(s.disk, "c.a.table"); is || s.disk.Strokes() != 2 {
		t.Errorf("no file, an empty table: %d strokes", s.disk.Strokes())
	}
}

// A bundle that is gone, is none, is another one, or has another width: nothing is
// turned, the import is open, and goes on once the bundle lies there again.
func TestP16_5_AnotherBundle(t *testing.T) {
	g := stock(32)
	data := g.bundle(64)
	files := map[string][]api.FileBytes{
		"gone":                 nil,
		"under other names":    {of("f.xx", data), of("x", data), of("+f.x", data)},
		"another size":         {of("f.x", g.bundle(63))},
		"another result":       {of("f.x", goods{32, g.blobs, g.results[:3]}.bundle(64))},
		"a blob more":          {of("f.x", goods{32, append(slices.Clone(g.blobs), "more"), g.results}.bundle(64))},
		"a bundle of none":     {of("f.x", goods{32, nil, nil}.bundle(64))},
		"another width":        {of("f.x", stock(31).bundle(64))},
		"its entries' sum":     {of("f.x", sealed(data, func(entries, index []byte) { entries[2+64] ^= 1 }))},
		"a turned sum":         {of("f.x", turned(data, len(data)-31+8))},
		"a turned index's sum": {of("f.x", turned(data, len(data)-31+20))},
		"cut":                  {of("f.x", data[:len(data)-1])},
		"longer":               {of("f.x", data+"f")},
		"no bytes":             {of("f.x", "")},
		"too long":             {of("f.x", times(api.MaxFile+1, "f"))},
	}
	for what, beside := range files {
		s := stored(t, 32, g.blobs[:2], nil, append(beside, of("c.a.import", formByWords(g.journal(64, g.results...))))...)
		s.wantRefused(t, what, resuming(), api.ErrOther, api.ID{})
		if !s.cache.Pending() {
			t.Errorf("%s: none is open", what)
		}
		s.hand(t, "f.x", data)
		s.want(t, what+", there again", resuming(), api.OK, api.ID{})
		s.wantHolds(t, what, g.blobs, g.results)
	}
}

// Each of the two sums alone says that it is another bundle.
func TestP16_5_TheSums(t *testing.T) {
	g := stock(32)
	good := g.journal(64, g.results...)
	for what, turn := range map[string]func(j *api.Journal){
		"entries":          func(j *api.Journal) { j.Entries ^= 1 },
		"index":            func(j *api.Journal) { j.Index ^= 1 },
		"entries' highest": func(j *api.Journal) { j.Entries ^= 1 << 31 },
		"index's highest":  func(j *api.Journal) { j.Index ^= 1 << 31 },
		"one for another":  func(j *api.Journal) { j.Entries, j.Index = j.Index, j.Entries },
		"entries, 0":       func(j *api.Journal) { j.Entries = 0 },
		"index, 0":         func(j *api.Journal) { j.Index = 0 },
	} {
		j := good
		turn(&j)
		s := shelved(t, g, nil, nil, of("c.a.import", formByWords(j)))
		s.wantRefused(t, what, resuming(), api.ErrOther, api.ID{})
	}
	// Blobs of one id and length but another: the entries say the same, the index does not.
	one, other := goods{1, []string{clash(1, "crate")}, nil}, goods{1, nil, nil}
	for i := 0; other.blobs == nil; i++ {
		if b := fmt.Sprintf("%0*d", len(one.blobs[0]), i); idOf(1, b) == one.ids()[0] {
			other.blobs = []string{b}
		}
	}
	if faceOf(one.bundle(64), 1).Entries != faceOf(other.bundle(64), 1).Entries {
		t.Fatal("other entries")
	}
	s := shelved(t, other, nil, nil, of("c.a.import", formByWords(one.journal(64))))
	s.wantRefused(t, "another index", resuming(), api.ErrOther, api.ID{})
}

// A block that is spoilt: what stands ahead of it is laid, and its first blob told.
func TestP16_5_ASpoiltBlock(t *testing.T) {
	g := stock(32)
	data := g.bundle(64)
	face := faceOf(data, 32)
	met := map[int]int{}
	for k, b := range face.Blocks {
		for at := b.At; at < b.At+b.Packed; at++ {
			s := begun(t, g, 0)
			s.disk.WriteAt("f.x", at, []byte{data[at] ^ 0x11})
			s.disk.Sync("f.x")
			first := slices.IndexFunc(face.Blobs, func(p api.Place) bool { return p.N > 0 && p.At+p.N > k*64 })
			s.want(t, fmt.Sprint("block ", k, ", byte ", at), resuming(), api.ErrOther, face.Blobs[first].ID)
			s.wantHolds(t, fmt.Sprint("block ", k), g.inOrder()[:first], nil)
			met[first]++
			if !s.cache.Pending() {
				t.Fatal("none is open")
			}
			s.hand(t, "f.x", data)
			s.want(t, "mended", resuming(), api.OK, api.ID{})
		}
	}
	if len(met) < 3 {
		t.Errorf("blobs %v", met)
	}
}

// A blob that is there already is read too: what cannot be read is told, though it
// would change nothing.
func TestP16_5_ASpoiltBlockOfWhatIsThere(t *testing.T) {
	g := stock(32)
	s := begun(t, g, 6)
	face := faceOf(g.bundle(64), 32)
	s.disk.WriteAt("f.x", face.Blocks[0].At, []byte{0x77})
	first := slices.IndexFunc(face.Blobs, func(p api.Place) bool { return p.N > 0 })
	s.want(t, "all there", resuming(), api.ErrOther, face.Blobs[first].ID)
}

// An id that the bundle lacks, at each place; what stands ahead is laid.
func TestP16_5_ABlobThatLacks(t *testing.T) {
	g := stock(32)
	for k := range len(g.blobs) + 1 {
		j := g.journal(64, g.results...)
		near := api.ID{}
		if k > 0 {
			near = g.ids()[k-1]
			near[31]++
		}
		j.Need = rising(append(j.Need, near)...)
		s := shelved(t, g, nil, nil).journaled(t, j)
		s.want(t, fmt.Sprint("behind ", k), resuming(), api.ErrOther, near)
		s.wantHolds(t, fmt.Sprint("behind ", k), g.inOrder()[:k], nil)
	}
}

// A blob that has another id than the bundle says.
func TestP16_5_ABlobOfAnotherID(t *testing.T) {
	g := stock(32)
	for k := range g.blobs {
		data := withID(g.bundle(64), 32, k)
		face := faceOf(data, 32)
		j := api.Journal{Bundle: "f.x", Entries: face.Entries, Index: face.Index}
		for _, place := range face.Blobs {
			j.Need = append(j.Need, place.ID)
		}
		s := stored(t, 32, nil, nil, of("f.x", data)).journaled(t, j)
		s.want(t, fmt.Sprint("blob ", k), resuming(), api.ErrOther, face.Blobs[k].ID)
		s.wantHolds(t, fmt.Sprint("blob ", k), g.inOrder()[:k], nil)
	}
}

// A clash with a blob that has come since: it stays as it was.
func TestP16_5_Clashes(t *testing.T) {
	g := stock(2)
	for k, blob := range g.inOrder() {
		other := clash(2, blob)
		s := shelved(t, g, []string{other}, nil, of("c.a.import", formByWords(g.journal(64, g.results...))))
		s.want(t, fmt.Sprint("clash ", k), resuming(), api.ErrOther, g.id(blob))
		s.wantHolds(t, fmt.Sprint("clash ", k), append(g.inOrder()[:k], other), nil)
		if !s.cache.Pending() {
			t.Error("none is open")
		}
		s.want(t, "again", resuming(), api.ErrOther, g.id(blob))
		s.away(t, blobName("a", g.id(blob)))
		s.want(t, "without it", resuming(), api.OK, api.ID{})
	}
}

// Unlike rows of one id and one length are a clash too.
func TestP16_5_ClashesOfOneLength(t *testing.T) {
	g := stock(1)
	for _, blob := range g.blobs {
		if blob == "" {
			continue // there is but one such row
		}
		other := ""
		for i := 0; other == ""; i++ {
			if row := fmt.Sprintf("%0*d", len(blob), i); idOf(1, row) == g.id(blob) {
				other = row
			}
		}
		s := shelved(t, g, []string{other}, nil, of("c.a.import", formByWords(g.journal(64, g.results...))))
		s.want(t, fmt.Sprintf("%.10q", blob), resuming(), api.ErrOther, g.id(blob))
		s.away(t, "c.a.import")
		s.wantRefused(t, fmt.Sprintf("%.10q", blob), importing("f.x", api.Keep), api.ErrCollision, g.id(blob))
	}
}

// Damage that has come since is written over.
func TestP16_5_Damage(t *testing.T) {
	g := stock(8)
	for _, blob := range g.blobs {
		for _, bad := range []string{"", "damage", times(api.MaxBlob+1, "d")} {
			if bad == blob {
				continue
			}
			s := shelved(t, g, nil, nil, of(blobName("a", g.id(blob)), bad), of("c.a.import", formByWords(g.journal(64, g.results...))))
			s.want(t, "damage", resuming(), api.OK, api.ID{})
			s.wantHolds(t, "damage", g.blobs, g.results)
		}
	}
}

// Too many blobs by now: those that still fit are laid.
func TestP16_5_TooManyBlobs(t *testing.T) {
	g := stock(32)
	others := strangers(32, 130)
	for held := 120; held <= 130; held++ {
		s := shelved(t, g, others[:held], nil, of("c.a.import", formByWords(g.journal(64, g.results...))))
		fit := max(0, 128-held)
		if fit >= len(g.blobs) {
			s.want(t, fmt.Sprint(held, " there"), resuming(), api.OK, api.ID{})
			continue
		}
		s.want(t, fmt.Sprint(held, " there"), resuming(), api.ErrBlobs, g.ids()[fit])
		s.wantHolds(t, fmt.Sprint(held, " there"), append(g.inOrder()[:fit], others[:held]...), nil)
	}
	// With a file of each blob there is no more to come, damage or not.
	s := shelved(t, g, others[:125], nil, of("c.a.import", formByWords(g.journal(64, g.results...))))
	for _, id := range g.ids() {
		s.hand(t, blobName("a", id), "damage")
	}
	s.want(t, "all damage", resuming(), api.OK, api.ID{})
}

// No room at each stroke: the blob that is laid there is told, the table's is told
// of no id; all that was done stays, the import is open, and goes on.
func TestP16_5_NoRoom(t *testing.T) {
	g := stock(32)
	for at := 1; at <= 37; at++ {
		s := begun(t, g, 0)
		s.disk.Plan(api.Plan{From: at, To: at})
		got := s.wantAsTheWordsSay(t, fmt.Sprint("at ", at), resuming())
		k, part := (at-1)/5, (at-1)%5
		want := said{}
		if part < 2 && k < 6 {
			want = said{api.ErrFull, g.ids()[k]}
		} else if part < 2 && k == 6 {
			want = said{code: api.ErrFull}
		}
		if got != want {
			t.Errorf("at %d: %v, want %v", at, got, want)
		}
		if want.code == api.OK {
			continue
		}
		s.wantHolds(t, fmt.Sprint("at ", at), g.inOrder()[:k], nil)
		s.wantJournal(t, fmt.Sprint("at ", at), g.journal(64, g.results...))
		if len(s.disk.List("+")) > 0 || !sameFiles(s.disk.Safe(), s.disk.Files()) {
			t.Errorf("at %d: %s", at, show(s.disk.Files()))
		}
		s.want(t, "resumed", resuming(), api.OK, api.ID{})
		s.wantHolds(t, "resumed", g.blobs, g.results)
	}
}

// The room that there is, byte by byte: as many blobs as it holds.
func TestP16_5_Room(t *testing.T) {
	g := stock(32)
	journal := formByWords(g.journal(64, g.results...))
	used := len(g.bundle(64)) + len(journal)
	met := map[said]int{}
	for more := 0; ; more += 7 {
		s := opened(t, mustLoad(t, used+more, of("f.x", g.bundle(64)), of("c.a.import", journal)), "a", 32)
		got := s.wantAsTheWordsSay(t, fmt.Sprint(more, " bytes"), resuming())
		met[got]++
		if got.code == api.OK {
			break
		}
		if got.code != api.ErrFull || !s.cache.Pending() {
			t.Fatalf("%d bytes: %v", more, got)
		}
	}
	if len(met) < 6 {
		t.Errorf("just %v", met)
	}
}

func TestP16_5_TooManyFiles(t *testing.T) {
	g := stock(32)
	for free := range 9 {
		s := begun(t, g, 0, manyFiles(api.MaxFiles-2-free)...)
		want := said{code: api.ErrFiles}
		if free < 6 {
			want.id = g.ids()[free]
		} else if free > 6 {
			want = said{}
		}
		s.want(t, fmt.Sprint(free, " free"), resuming(), want.code, want.id)
		if want.code != api.OK && (!s.cache.Pending() || len(s.disk.List("+")) > 0) {
			t.Errorf("%d free: %s", free, show(s.disk.Files()))
		}
	}
}

// A need that is not whole in the cache: the id is Need's, the table stays.
func TestP16_5_NotWhole(t *testing.T) {
	g := stock(32)
	deep := []string{treeOf()}
	for len(deep) < api.MaxDepth+1 {
		deep = append(deep, treeOf(aFolder(idOf(32, deep[len(deep)-1]))))
	}
	tall := goods{32, deep, nil}
	for _, x := range []struct {
		what    string
		g       goods
		held    []string
		results []api.Result
		need    []api.ID
		id      api.ID
	}{
		{"a root lacks", g, nil, []api.Result{res(1, api.ID{9}, 0)}, g.ids(), api.ID{9}},
		{"the least lacks", g, nil, []api.Result{res(1, api.ID{9}, 0), res(2, api.ID{3}, 0)}, g.ids(), api.ID{3}},
		{"no tree", g, nil, []api.Result{res(1, g.id(crate), 0)}, g.ids(), g.id(crate)},
		{"no tree, though one lacks", g, nil, []api.Result{res(1, g.id(crate), 0), res(2, api.ID{}, 0)}, g.ids(), g.id(crate)},
		{"too deep", tall, nil, []api.Result{res(1, idOf(32, deep[api.MaxDepth]), 0)}, tall.ids(), idOf(32, deep[0])},
		{"nothing was laid", g, nil, g.results[:1], nil, g.results[0].Root},
		{"a blob lacks", g, slices.DeleteFunc(slices.Clone(g.blobs), func(b string) bool { return b == pallet }), g.results, nil, g.id(pallet)},
	} {
		own := []api.Result{res(200, api.ID{}, 1)}
		s := shelved(t, x.g, x.held, own)
		j := x.g.journal(64, x.results...)
		j.Results, j.Need = x.results, x.need
		s.journaled(t, j)
		s.want(t, x.what, resuming(), api.ErrOther, x.id)
		blobs := slices.Clone(x.held)
		for _, id := range x.need {
			blobs = append(blobs, x.g.byID()[id])
		}
		s.wantHolds(t, x.what, blobs, own)
		s.wantJournal(t, x.what, j)
		s.wantRefused(t, x.what+", again", resuming(), api.ErrOther, x.id)
	}
}

// Damage beside the need makes it not whole, damage elsewhere does not.
func TestP16_5_DamageIsNotThere(t *testing.T) {
	g := stock(32)
	j := g.journal(64, g.results...)
	j.Need = nil
	for _, blob := range g.blobs {
		s := shelved(t, g, g.blobs, nil).journaled(t, j)
		s.hand(t, blobName("a", g.id(blob)), "damage to "+blob)
		s.want(t, "damage", resuming(), api.ErrOther, g.id(blob))
	}
	s := shelved(t, g, g.blobs, nil, of(blobName("a", api.ID{9}), "damage")).journaled(t, j)
	s.want(t, "damage elsewhere", resuming(), api.OK, api.ID{})
}

// The whole need of the journal's Results alone, not of its Table.
func TestP16_5_TheTablesNeed(t *testing.T) {
	g := stock(32)
	table := []api.Result{res(1, api.ID{9}, 0), res(2, g.id(crate), 0)}
	s := shelved(t, g, nil, nil).journaled(t, g.journal(64, table...))
	s.want(t, "of the table", resuming(), api.OK, api.ID{})
	s.wantHolds(t, "of the table", g.blobs, table)
}

// A journal of nothing: the end alone.
func TestP16_5_Nothing(t *testing.T) {
	g := goods{32, nil, nil}
	s := shelved(t, g, []string{crate}, nil).journaled(t, g.journal(64))
	before := s.disk.Twin()
	s.want(t, "nothing", resuming(), api.OK, api.ID{})
	if s.disk.Strokes()-before.Strokes() != 2 || !sameFiles(s.disk.Files(), without(before.Files(), "c.a.import")) {
		t.Errorf("%s", show(s.disk.Files()))
	}
}

// Drafts of what is put are taken away as chapter 6 says.
func TestP16_5_Drafts(t *testing.T) {
	g := stock(32)
	s := begun(t, g, 2)
	for _, name := range []string{"c.a.import", "c.a.table", blobName("a", g.ids()[1]), blobName("a", g.ids()[4])} {
		s.hand(t, "+"+name, "a draft")
	}
	s.want(t, "drafts", resuming(), api.OK, api.ID{})
	if got := s.disk.List("+"); !slices.Equal(got, []string{"+" + blobName("a", g.ids()[1]), "+c.a.import"}) {
		t.Errorf("%v", got)
	}
}

// Wherever the power goes off: ErrOff, without an ID; and the parts stand in their
// order, stroke by stroke.
func TestP16_5_ThePowerGoesOff(t *testing.T) {
	g := stock(32)
	for at := 1; at <= 37; at++ {
		s := begun(t, g, 0)
		s.disk.Plan(api.Plan{Off: at})
		s.want(t, fmt.Sprint("off at ", at), resuming(), api.ErrOff, api.ID{})
		if s.disk.Strokes() != at {
			t.Errorf("off at %d: %d strokes", at, s.disk.Strokes())
		}
	}
	s := begun(t, g, 0)
	s.disk.Plan(api.Plan{Off: 38})
	s.want(t, "off at 38", resuming(), api.OK, api.ID{})
}

// The power goes off within what follows on no room.
func TestP16_5_NoRoomAndThePowerGoesOff(t *testing.T) {
	g := stock(32)
	for at := 1; at <= 37; at++ {
		for more := range 4 {
			for _, d := range []doing{resuming(), importing("f.x", api.Keep)} {
				s := begun(t, g, 0)
				if d.op == "intake.import" {
					s.away(t, "c.a.import")
				}
				s.disk.Plan(api.Plan{From: at, To: at, Off: at + more})
				if got := s.wantAsTheWordsSay(t, fmt.Sprint("at ", at, ", off ", more, " behind it"), d); got.code == api.ErrOff && got.id != (api.ID{}) {
					t.Errorf("at %d: %v", at, got)
				}
			}
		}
	}
}
