package intake_test

import (
	"fmt"
	"math"
	"slices"
	"testing"

	"freight/api"
	"freight/bundle"
	"freight/intake"
)

func noPolicies() []int {
	return []int{0, 4, -1, 5, -3, 255, 257, 1 << 32, 1<<32 + 1, math.MaxInt, math.MinInt}
}

// Ahead of all else that may be wrong.
func TestP16_3_Policies(t *testing.T) {
	g := stock(32)
	dark := shelved(t, g, nil, nil)
	darken(t, dark.disk)
	stores := append(noStores(), dark, shelved(t, g, nil, nil), shelved(t, g, nil, nil, of("c.a.import", "open")))
	for _, policy := range noPolicies() {
		for _, s := range stores {
			for _, name := range []string{"f.x", "f.y", "F", ""} {
				s.wantRefused(t, fmt.Sprint("policy ", policy, " of ", name), importing(name, policy), api.ErrArg, api.ID{})
			}
		}
	}
	for _, policy := range policies() {
		shelved(t, g, nil, nil).want(t, fmt.Sprint("policy ", policy), importing("f.x", policy), api.OK, api.ID{})
	}
}

// Ahead of a disk that is off, and of an open import.
func TestP16_3_NoNames(t *testing.T) {
	g := stock(32)
	dark := shelved(t, g, nil, nil)
	darken(t, dark.disk)
	stores := append(noStores(), dark, shelved(t, g, nil, nil), shelved(t, g, nil, nil, of("c.a.import", "open")))
	for _, name := range noDiskNames() {
		for _, s := range stores {
			s.wantRefused(t, fmt.Sprintf("%.20q", name), importing(name, api.Keep), api.ErrName, api.ID{})
		}
	}
}

// Every name of a disk is one of a bundle's file: drafts' names and other caches'
// among them, and those that no Put takes.
func TestP16_3_Names(t *testing.T) {
	g := stock(8)
	for _, name := range append(diskNames(), "c.b.table", "c.b.import", "c.a.b.zz", "+c.b.import") {
		if name == "c.a.import" {
			continue
		}
		s := stored(t, 8, nil, nil, of(name, g.bundle(64)))
		s.want(t, name, importing(name, api.Fail), api.OK, api.ID{})
		s.wantHolds(t, name, g.blobs, g.results)
		s.wantRefused(t, name, importing(name+"x", api.Fail), map[bool]api.Errno{true: api.ErrNone, false: api.ErrName}[len(name) < 112], api.ID{})
	}
}

func TestP16_3_Off(t *testing.T) {
	for _, s := range noStores() {
		s.wantRefused(t, "no cache", importing("f.x", api.Keep), api.ErrOff, api.ID{})
	}
	for _, beside := range [][]api.FileBytes{nil, {of("c.a.import", "open")}, {of("c.a.table", "no table")}} {
		s := stored(t, 32, nil, nil, append(beside, of("f.x", stock(32).bundle(64)), of("f.bad", "none"))...)
		darken(t, s.disk)
		for _, name := range []string{"f.x", "f.y", "f.bad", "c.a.import"} {
			s.wantRefused(t, name, importing(name, api.Keep), api.ErrOff, api.ID{})
		}
	}
}

// Whatever the import's file holds, and whatever is asked for.
func TestP16_3_Open(t *testing.T) {
	g := stock(32)
	for _, data := range append(noForms(), formByWords(g.journal(64, g.results...))) {
		s := shelved(t, g, nil, nil, of("c.a.import", data), of("f.bad", "none"))
		for _, name := range []string{"f.x", "f.y", "f.bad", "c.a.import"} {
			s.wantRefused(t, name, importing(name, api.Take), api.ErrOpen, api.ID{})
		}
	}
	s := shelved(t, g, nil, nil, of("c.b.import", "theirs"))
	s.want(t, "another cache's", importing("f.x", api.Take), api.OK, api.ID{})
}

func TestP16_3_NoFile(t *testing.T) {
	s := shelved(t, stock(32), nil, nil, of("c.b.table", "no table"), of("c.a.table", "no table"))
	for _, name := range []string{"f.y", "f.", "f.xx", "x", "+f.x", "c.a.import", times(112, "a")} {
		s.wantRefused(t, name, importing(name, api.Keep), api.ErrNone, api.ID{})
	}
	s.away(t, "f.x")
	s.wantRefused(t, "taken away", importing("f.x", api.Keep), api.ErrNone, api.ID{})
}

// noBundles are files that Verify refuses, of all its kinds.
func noBundles() map[string]string {
	g := stock(32)
	data := g.bundle(64)
	wide := goods{32, strangers(32, 3), nil}
	deep := []string{treeOf()}
	for len(deep) < api.MaxDepth+1 {
		deep = append(deep, treeOf(aFolder(idOf(32, deep[len(deep)-1]))))
	}
	return map[string]string{
		"no bytes":           "",
		"no bundle":          "crate",
		"cut":                data[:len(data)-1],
		"longer":             data + "\x00",
		"too long":           times(api.MaxFile+1, "f"),
		"a block turned":     turned(data, 7),
		"a sum of entries":   turned(data, len(data)-31-50),
		"another id":         withID(data, 32, 2),
		"blobs beside":       goods{32, append(slices.Clone(g.blobs), wide.blobs...), g.results}.bundle(64),
		"only blobs":         wide.bundle(64),
		"a blob lacks":       goods{32, g.blobs[1:], g.results}.bundle(64),
		"a root lacks":       goods{32, nil, g.results}.bundle(64),
		"no tree":            goods{32, []string{crate}, []api.Result{res(1, idOf(32, crate), 0)}}.bundle(64),
		"too deep":           goods{32, deep, []api.Result{res(1, idOf(32, deep[api.MaxDepth]), 0)}}.bundle(64),
		"another width":      stock(31).bundle(64),
		"a table":            tableForm(g.results),
		"a journal":          formByWords(g.journal(64)),
		"two of them":        data + data,
		"a bundle's own end": data[6:],
	}
}

// As Verify says, with its id, and nothing is turned.
func TestP16_3_NoGoodBundle(t *testing.T) {
	met := map[api.Errno]int{}
	for what, data := range noBundles() {
		_, err := bundle.Verify([]byte(data), 32)
		if err == nil {
			t.Fatalf("%s: it is good", what)
		}
		want := saidOf(err)
		met[want.code]++
		for _, ours := range [][]api.Result{nil, {res(11, api.ID{}, 1)}} {
			s := stored(t, 32, []string{crate, "more"}, ours, of("f.x", data))
			for _, policy := range policies() {
				s.wantRefused(t, what, importing("f.x", policy), want.code, want.id)
			}
		}
		s := stored(t, 32, nil, nil, of("f.x", data), of("c.a.table", "no table"))
		s.wantRefused(t, what+", and no table", importing("f.x", api.Keep), want.code, want.id)
	}
	for _, code := range []api.Errno{api.ErrBundle, api.ErrBundleLong, api.ErrBlock, api.ErrSum, api.ErrDigest, api.ErrExtra, api.ErrMissing, api.ErrNoTree, api.ErrDeep} {
		if met[code] == 0 {
			t.Errorf("no bundle of %d", code)
		}
	}
}

// Each byte of a bundle turned, and each length of it. (A row of one block may be
// cut by another size too.)
func TestP16_3_EachByteOfABundle(t *testing.T) {
	small := goods{4, []string{treeOf()}, []api.Result{res(1, idOf(4, treeOf()), 0)}}
	for _, bytes := range []string{small.bundle(16), stock(4).bundle(32)} {
		for at := range len(bytes) {
			s := stored(t, 4, nil, nil, of("f.x", turned(bytes, at)))
			got := s.wantAsTheWordsSay(t, fmt.Sprint("byte ", at), importing("f.x", api.Keep))
			if isSize := at == 4 || at == 5; got.code == api.OK && !isSize {
				t.Errorf("byte %d: it is taken", at)
			}
			s = stored(t, 4, nil, nil, of("f.x", bytes[:at]))
			s.wantRefused(t, fmt.Sprint(at, " bytes"), importing("f.x", api.Keep), api.ErrBundle, api.ID{})
		}
	}
}

// The cache's width is the bundle's.
func TestP16_3_Widths(t *testing.T) {
	for width := 1; width <= api.MaxWidth; width++ {
		g := stock(width)
		s := shelved(t, g, nil, nil)
		for _, other := range []int{width - 1, width + 1, 32 - width, 33 - width} {
			if other >= 1 && other <= 32 && other != width {
				opened(t, s.disk.Twin(), "a", other).wantRefused(t, fmt.Sprint("width ", width, " in ", other), importing("f.x", api.Keep), api.ErrBundle, api.ID{})
			}
		}
		s.want(t, fmt.Sprint("width ", width), importing("f.x", api.Keep), api.OK, api.ID{})
		s.wantHolds(t, fmt.Sprint("width ", width), g.blobs, g.results)
	}
}

func TestP16_3_NoTable(t *testing.T) {
	g := stock(2)
	for _, bad := range []string{"", "\x09", tableForm(g.results) + "\x00", "\x80\x00"} {
		s := shelved(t, g, []string{clash(2, crate)}, nil, of("c.a.table", bad))
		s.wantRefused(t, fmt.Sprintf("%.5q", bad), importing("f.x", api.Fail), api.ErrCache, api.ID{})
	}
}

// Unlike rows of one id: the least of them, and nothing is turned.
func TestP16_3_Clashes(t *testing.T) {
	for _, width := range []int{1, 2} {
		g := stock(width)
		var clashing []string
		for _, blob := range g.inOrder() {
			clashing = append(clashing, clash(width, blob))
		}
		for set := 1; set < 1<<len(clashing); set++ {
			var held []string
			var first api.ID
			for k := len(clashing) - 1; k >= 0; k-- {
				if set>>k&1 == 1 {
					held = append(held, clashing[k])
					first = g.ids()[k]
				}
			}
			s := shelved(t, g, held, g.results[:1])
			for _, policy := range policies() {
				s.wantRefused(t, fmt.Sprint("clashes ", set), importing("f.x", policy), api.ErrCollision, first)
			}
		}
	}
}

// Damage is no clash: it is replaced, whatever it is.
func TestP16_3_Damage(t *testing.T) {
	g := stock(8)
	for _, blob := range g.blobs {
		for _, bad := range []string{"damage", blob + "\x00", times(api.MaxBlob, "x"), times(api.MaxBlob+1, "x"), times(50000, "y")} {
			s := shelved(t, g, nil, nil, of(blobName("a", g.id(blob)), bad))
			s.want(t, fmt.Sprintf("%.10q is %.10q", blob, bad), importing("f.x", api.Keep), api.OK, api.ID{})
			s.wantHolds(t, "replaced", g.blobs, g.results)
		}
	}
}

// Conflicts under the three policies.
func TestP16_3_Conflicts(t *testing.T) {
	g := stock(32)
	like, own := g.results[0], res(1, g.results[2].Root, 9)
	coded, rooted := g.results[1], g.results[3]
	coded.Code, rooted.Root = 3, g.results[2].Root
	ours := []api.Result{own, like, coded, rooted}
	for _, x := range []struct {
		policy int
		want   []api.Result
	}{
		{api.Keep, []api.Result{own, like, coded, g.results[2], rooted}},
		{api.Take, []api.Result{own, like, g.results[1], g.results[2], g.results[3]}},
	} {
		s := shelved(t, g, g.blobs[2:], ours)
		s.want(t, fmt.Sprint("policy ", x.policy), importing("f.x", x.policy), api.OK, api.ID{})
		s.wantHolds(t, fmt.Sprint("policy ", x.policy), g.blobs, x.want)
	}
	s := shelved(t, g, g.blobs[2:], ours)
	s.wantRefused(t, "Fail", importing("f.x", api.Fail), api.ErrConflict, coded.Action)
	s = shelved(t, g, g.blobs[2:], []api.Result{own, like, rooted})
	s.wantRefused(t, "Fail, the last", importing("f.x", api.Fail), api.ErrConflict, rooted.Action)
	for _, policy := range policies() {
		s = shelved(t, g, g.blobs, append([]api.Result{own}, g.results...))
		s.want(t, "like results", importing("f.x", policy), api.OK, api.ID{})
		s.wantHolds(t, "like results", g.blobs, append([]api.Result{own}, g.results...))
	}
}

func TestP16_3_TooManyActions(t *testing.T) {
	g := stock(32)
	for n, want := range map[int]api.Errno{28: api.OK, 29: api.ErrActions, 32: api.ErrActions} {
		for _, policy := range policies() {
			ours := resultsFrom(100, n, g.results[0].Root)
			s := shelved(t, g, nil, ours)
			s.want(t, fmt.Sprint(n, " actions"), importing("f.x", policy), want, api.ID{})
			if want != api.OK {
				s.wantRefused(t, fmt.Sprint(n, " actions"), importing("f.x", policy), want, api.ID{})
			}
		}
	}
	both := append(slices.Clone(g.results[:3]), resultsFrom(100, 28, g.results[0].Root)...)
	shelved(t, g, nil, both).want(t, "32 with those of both", importing("f.x", api.Fail), api.OK, api.ID{})
}

// Files of blobs, damage among them; those of both count once.
func TestP16_3_TooManyBlobs(t *testing.T) {
	g := stock(32)
	others := strangers(32, 128)
	bad := of(blobName("a", api.ID{77}), "damage")
	for _, x := range []struct {
		what   string
		held   []string
		beside []api.FileBytes
		want   api.Errno
	}{
		{"122 and 6", others[:122], nil, api.OK},
		{"123 and 6", others[:123], nil, api.ErrBlobs},
		{"121, damage and 6", others[:121], []api.FileBytes{bad}, api.OK},
		{"122, damage and 6", others[:122], []api.FileBytes{bad}, api.ErrBlobs},
		{"125, of both 3", append(slices.Clone(g.blobs[:3]), others[:122]...), nil, api.OK},
		{"126, of both 3", append(slices.Clone(g.blobs[:3]), others[:123]...), nil, api.ErrBlobs},
		{"128, of both 6", append(slices.Clone(g.blobs), others[:122]...), nil, api.OK},
		{"129, of both 6", append(slices.Clone(g.blobs), others[:123]...), nil, api.OK},
		{"122, the seventh damage", others[:122], []api.FileBytes{of(blobName("a", g.id(crate)), "damage")}, api.OK},
		{"127, of which one damage of its own", others[:126], []api.FileBytes{of(blobName("a", g.id(crate)), "damage")}, api.ErrBlobs},
	} {
		s := shelved(t, g, x.held, nil, x.beside...)
		before := s.disk.Twin()
		s.want(t, x.what, importing("f.x", api.Keep), x.want, api.ID{})
		if x.want != api.OK {
			wantSameDisk(t, x.what, s.disk, before)
		}
	}
}

// The journal, read when there was no room for the first blob: all results and all
// blobs of the bundle, whatever the policy makes of them and whatever is there; and
// the table that will be.
func TestP16_3_TheJournal(t *testing.T) {
	g := stock(32)
	own, coded := res(1, g.results[2].Root, 9), g.results[1]
	coded.Code = 3
	for policy, table := range map[int][]api.Result{
		api.Keep: {own, g.results[0], coded, g.results[2], g.results[3]},
		api.Take: append([]api.Result{own}, g.results...),
	} {
		s := shelved(t, g, g.blobs[3:], []api.Result{own, coded})
		s.disk.Plan(api.Plan{From: 6, To: 6})
		s.want(t, fmt.Sprint("policy ", policy), importing("f.x", policy), api.ErrFull, rising(idsOf(32, g.blobs[:3]...)...)[0])
		s.wantJournal(t, fmt.Sprint("policy ", policy), g.journal(64, table...))
		data, _ := shown(s.disk, "c.a.import")
		if want := formByWords(g.journal(64, table...)); data != want {
			t.Errorf("policy %d: %x, want %x", policy, data, want)
		}
	}
}

// How many strokes there are, and that each is that of a Put or of a Drop, by what
// the words have done on a twin.
func TestP16_3_Strokes(t *testing.T) {
	g := stock(32)
	for n := range len(g.blobs) + 1 {
		for _, ours := range [][]api.Result{nil, g.results[:2], g.results} {
			s := shelved(t, g, g.blobs[:n], ours)
			s.want(t, "import", importing("f.x", api.Fail), api.OK, api.ID{})
			want := 5 + 5*(len(g.blobs)-n) + 5 + 2
			if len(ours) == len(g.results) {
				want -= 5
			}
			if got := s.disk.Strokes(); got != want {
				t.Errorf("%d blobs and %d results there: %d strokes, want %d", n, len(ours), got, want)
			}
		}
	}
}

// A bundle of nothing: the journal and the end.
func TestP16_3_AnEmptyBundle(t *testing.T) {
	for _, ours := range [][]api.Result{nil, {res(1, idOf(8, treeOf()), 5)}} {
		s := shelved(t, goods{8, nil, nil}, []string{treeOf()}, ours)
		for _, policy := range policies() {
			before := s.disk.Twin()
			s.want(t, "nothing", importing("f.x", policy), api.OK, api.ID{})
			if s.disk.Strokes()-before.Strokes() != 7 || !sameFiles(s.disk.Files(), before.Files()) {
				t.Errorf("%d strokes, %s", s.disk.Strokes()-before.Strokes(), show(s.disk.Files()))
			}
		}
	}
}

// As much as a bundle may have.
func TestP16_3_AFullBundle(t *testing.T) {
	var g goods
	g.width = 32
	for len(g.blobs) < 14 {
		g.blobs = append(g.blobs, fmt.Sprintf("%04096d", len(g.blobs)))
	}
	for len(g.blobs) < 62 {
		g.blobs = append(g.blobs, fmt.Sprint("small ", len(g.blobs)))
	}
	half := []string{filesTree(32, g.blobs[:31]...), filesTree(32, g.blobs[31:]...)}
	g.blobs = append(g.blobs, half...)
	for i := range api.MaxActions {
		g.results = append(g.results, res(byte(i), idOf(32, half[i%2]), i))
	}
	for _, size := range []int{api.MinBlock, api.MaxBlock} {
		s := stored(t, 32, nil, nil, of("f.x", g.bundle(size)))
		s.want(t, "full", importing("f.x", api.Fail), api.OK, api.ID{})
		s.wantHolds(t, "full", g.blobs, g.results)
		if s.disk.Strokes() != 5*64+12 {
			t.Errorf("%d strokes", s.disk.Strokes())
		}
	}
}

// No room at one of the journal's strokes: nothing is turned, no draft is left.
func TestP16_3_NoRoomForTheJournal(t *testing.T) {
	g := stock(32)
	for _, draft := range []string{"", "left of a crash"} {
		for _, plan := range []api.Plan{{From: 1, To: 1}, {From: 2, To: 2}, {From: 1, To: 99}, {From: 2, To: 99}, {From: 3, To: 3}} {
			s := shelved(t, g, g.blobs[:2], g.results[:1])
			before := s.disk.Files()
			if draft != "" {
				s.hand(t, "+c.a.import", draft)
			}
			s.disk.Plan(plan)
			got := s.wantAsTheWordsSay(t, fmt.Sprint(plan), importing("f.x", api.Keep))
			if got.code == api.OK {
				continue // the plan's strokes make nothing
			}
			if got != (said{code: api.ErrFull}) || s.cache.Pending() || !sameFiles(s.disk.Files(), before) || !sameFiles(s.disk.Safe(), before) {
				t.Errorf("%v: %v, %s", plan, got, show(s.disk.Files()))
			}
			s.wantNoJournal(t, "refused", api.ErrNoImport)
		}
	}
}

// The room that there is, to the byte.
func TestP16_3_JustRoomForTheJournal(t *testing.T) {
	g := stock(32)
	data := g.bundle(64)
	journal := len(formByWords(g.journal(64, g.results...)))
	for more, want := range map[int]said{
		-1:                  {code: api.ErrFull},
		0:                   {code: api.ErrFull, id: g.ids()[0]},
		len(g.inOrder()[0]): {code: api.ErrFull, id: g.ids()[1]},
	} {
		d := mustLoad(t, len(data)+journal+more, of("f.x", data))
		s := opened(t, d, "a", 32)
		s.want(t, fmt.Sprint(more, " bytes more"), importing("f.x", api.Keep), want.code, want.id)
		if s.cache.Pending() != (more >= 0) || len(d.List("+")) > 0 {
			t.Errorf("%d bytes more: %s", more, show(d.Files()))
		}
	}
}

func manyFiles(n int) []api.FileBytes {
	var files []api.FileBytes
	for i := range n {
		files = append(files, of(fmt.Sprintf("m%03d", i), ""))
	}
	return files
}

// A disk full of files: none for the journal, or one, or a few blobs more.
func TestP16_3_TooManyFiles(t *testing.T) {
	g := stock(32)
	for free := range 10 {
		s := shelved(t, g, nil, nil, manyFiles(api.MaxFiles-1-free)...)
		before := s.disk.Files()
		want := said{code: api.ErrFiles}
		switch {
		case free > 0 && free <= 6:
			want.id = g.ids()[free-1]
		case free == 7:
			want.id = api.ID{} // the table's
		case free > 7:
			want = said{}
		}
		s.want(t, fmt.Sprint(free, " free"), importing("f.x", api.Keep), want.code, want.id)
		if free == 0 && (!sameFiles(s.disk.Files(), before) || s.cache.Pending()) {
			t.Errorf("none free: %s", show(s.disk.Files()))
		}
		if len(s.disk.List("+")) > 0 || s.cache.Pending() != (want.code != api.OK && free > 0) {
			t.Errorf("%d free: %d drafts, open %t", free, len(s.disk.List("+")), s.cache.Pending())
		}
	}
}

// A bundle that lies as the journal's own draft is taken away by the Put: the
// import is open, and has no bundle.
func TestP16_3_TheDraftsName(t *testing.T) {
	g := stock(32)
	s := stored(t, 32, nil, nil)
	s.hand(t, "+c.a.import", g.bundle(64))
	s.want(t, "+c.a.import", importing("+c.a.import", api.Keep), api.ErrOther, api.ID{})
	if !s.cache.Pending() {
		t.Error("none is open")
	}
	s.want(t, "resumed", resuming(), api.ErrOther, api.ID{})
	j, err := intake.Journal(s.cache)
	if err != nil || j.Bundle != "+c.a.import" || len(j.Need) != 6 {
		t.Errorf("%v, %v", j, err)
	}
}

// A bundle in the file of a blob that comes: it is damage there, and is written
// over in the midst.
func TestP16_3_TheFileOfABlob(t *testing.T) {
	g := stock(32)
	for k, blob := range g.inOrder() {
		name := blobName("a", g.id(blob))
		s := stored(t, 32, nil, nil, of(name, g.bundle(64)))
		got := s.wantAsTheWordsSay(t, fmt.Sprint("blob ", k), importing(name, api.Keep))
		if want := k == len(g.blobs)-1; (got.code == api.OK) != want {
			t.Errorf("blob %d: %v", k, got)
		}
	}
}

// Two caches on one disk, out of one file.
func TestP16_3_TwoCaches(t *testing.T) {
	g := stock(32)
	a := shelved(t, g, nil, nil)
	b := opened(t, a.disk, "b-2", 32)
	a.disk.Plan(api.Plan{From: 11, To: 11})
	a.want(t, "a", importing("f.x", api.Keep), api.ErrFull, g.ids()[1])
	b.want(t, "b", importing("f.x", api.Keep), api.OK, api.ID{})
	b.wantHolds(t, "b", g.blobs, g.results)
	if b.cache.Pending() || !a.cache.Pending() {
		t.Error("the other is open")
	}
	b.wantRefused(t, "b", resuming(), api.ErrNoImport, api.ID{})
	a.want(t, "a", resuming(), api.OK, api.ID{})
	a.wantHolds(t, "a", g.blobs, g.results)
	b.wantHolds(t, "b", g.blobs, g.results)
}
