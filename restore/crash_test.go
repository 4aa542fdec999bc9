package restore_test

import (
	"fmt"
	"maps"
	"slices"
	"strings"
	"testing"

	"freight/api"
	"freight/cache"
	"freight/disk"
	"freight/intake"
)

// crashes are picks for every part of a short row of changes of names, and of
// bytes at their ends and within them.
func crashes() [][]int {
	var picks [][]int
	for names := range 4 {
		for _, units := range []int{0, 1, 40, -1} {
			picks = append(picks, slices.Concat([]int{names}, slices.Repeat([]int{units}, 24)))
		}
	}
	return append(picks, nil, slices.Repeat([]int{-1}, 24), []int{1, -2, 3, -4, 5}, []int{1 << 40, -1 << 40, 7})
}

// crashed is the store behind a crash, opened anew.
func (s *store) crashed(t testing.TB, picks ...int) *store {
	t.Helper()
	s.disk.Crash(picks...)
	return opened(t, s.disk, s.name, s.width)
}

// cutOff is a twin behind a crash, opened anew.
func (s *store) cutOff(t testing.TB, picks []int) *store {
	t.Helper()
	return (&store{disk: s.disk.Twin(), name: s.name, width: s.width}).crashed(t, picks...)
}

// scene is a restore on a store on which all is safe: how it is made, what is asked,
// and the journal that it has.
type scene struct {
	make    func() *store
	ask     ask
	journal api.Journal
}

// scenes have much to do, and little.
func scenes(t testing.TB) map[string]scene {
	g := stock(8)
	own, changed := res(1, g.results[2].Root, 9), g.results[1]
	changed.Code = 3
	two, last := g.results[:2], g.results[2:3]
	empty := func() *store { return shelved(t, g, nil, nil) }
	mixed := func() *store {
		return shelved(t, g, []string{g.blobs[5], "own"}, []api.Result{own, changed}, of(blobName("a", g.id(crate)), "damage"), of("c.b.import", "theirs"))
	}
	return map[string]scene{
		"an empty cache": {empty, ask{"f.x", acts(12, 11, 12), api.Fail}, g.journal(64, two, two...)},
		"one":            {empty, ask{"f.x", acts(13), api.Keep}, g.journal(64, last, last...)},
		"all":            {empty, ask{"f.x", acts(11, 12, 13, 14), api.Take}, g.journal(64, g.results, g.results...)},
		"none":           {mixed, ask{"f.x", nil, api.Take}, g.journal(64, nil, own, changed)},
		"Take":           {mixed, ask{"f.x", acts(11, 12), api.Take}, g.journal(64, two, own, two[0], two[1])},
		"Keep":           {mixed, ask{"f.x", acts(11, 12), api.Keep}, g.journal(64, two, own, two[0], changed)},
		"nothing new": {func() *store { return shelved(t, g, g.blobs, g.results) },
			ask{"f.x", acts(11, 12), api.Fail}, g.journal(64, two, g.results...)},
		"drafts": {func() *store {
			s := shelved(t, g, g.blobs[:2], nil)
			for _, name := range []string{"+c.a.import", "+c.a.table", "+" + blobName("a", g.id(g.blobs[4])), "+c.b.table"} {
				s.hand(t, name, "left of a crash")
			}
			s.disk.Crash()
			return s
		}, ask{"f.x", acts(11, 12), api.Take}, g.journal(64, two, two...)},
	}
}

// state is what the disk held ahead of a restore, and what it would hold behind it.
type state struct {
	before, done map[string]string
	journal      api.Journal
	allowed      []api.Span // what may be read of the bundle
}

// filed are the files by their names, but the drafts of the cache a.
func filed(files []api.FileBytes) map[string]string {
	m := map[string]string{}
	for _, f := range files {
		if !strings.HasPrefix(f.Name, "+c.a.") {
			m[f.Name] = string(f.Data)
		}
	}
	return m
}

// done is the state of a scene, and how many strokes its restore has.
func (x scene) done(t testing.TB) (state, int) {
	t.Helper()
	s := x.make()
	before := s.disk.Twin()
	if err := x.ask.of(s); err != nil {
		t.Fatal(err)
	}
	allowed := words{before, "a", 8}.readsOf(x.ask.file, x.ask.actions, x.ask.policy)
	return state{filed(before.Files()), filed(s.disk.Files()), x.journal, allowed}, s.disk.Strokes() - before.Strokes()
}

// wantCutOff asks for what P16.10 lets a cut off restore leave behind a crash; it
// tells what that was.
func (x state) wantCutOff(t testing.TB, what string, s *store) string {
	t.Helper()
	now := filed(s.disk.Files())
	isOpen := s.cache.Pending()
	if isOpen {
		s.wantJournal(t, what, x.journal)
	} else if !maps.Equal(now, x.before) && !maps.Equal(now, x.done) {
		t.Fatalf("%s: none is open, and there is %s", what, show(s.disk.Files()))
	}
	its := map[string]int{"c.a.table": 1}
	for _, id := range x.journal.Need {
		its[blobName("a", id)]++
	}
	both := maps.Clone(now)
	maps.Copy(both, x.before)
	for name := range both {
		data, is := now[name]
		old, was := x.before[name]
		fresh, will := x.done[name]
		asWas, asWill := is == was && data == old, is == will && data == fresh
		if !asWas && !(asWill && its[name] > 0) && !(name == "c.a.import" && isOpen) {
			t.Fatalf("%s: %.20s is %.20q (there %t), was %.20q", what, name, data, is, old)
		}
	}
	return fmt.Sprint("open ", isOpen, ", the table that would be ", now["c.a.table"] == x.done["c.a.table"])
}

// wantDone resumes, if it is open, and asks for what the restore would have left,
// with nothing read beside what it would have read.
func (x state) wantDone(t testing.TB, what string, s *store) {
	t.Helper()
	if !s.cache.Pending() {
		return
	}
	s.disk.Look()
	if err := intake.Resume(s.cache); err != nil {
		t.Fatalf("%s, resumed: %v", what, err)
	}
	wantWithin(t, what+", resumed", s.disk.Reads(), "f.x", x.allowed)
	if !maps.Equal(filed(s.disk.Files()), x.done) || !sameFiles(s.disk.Safe(), s.disk.Files()) || s.cache.Pending() {
		t.Fatalf("%s, resumed: %s", what, show(s.disk.Files()))
	}
}

// The power goes off at each stroke of each restore, all crashes come, and it is
// resumed.
func TestP17_4_CutOff(t *testing.T) {
	for name, x := range scenes(t) {
		want, strokes := x.done(t)
		met := map[string]int{}
		for at := 1; at <= strokes; at++ {
			s := x.make()
			s.disk.Plan(api.Plan{Off: at})
			wantFault(t, fmt.Sprint(name, ", off at ", at), x.ask.of(s), "restore.restore", "f.x", said{code: api.ErrOff})
			if !s.disk.Off() {
				t.Fatalf("%s: the power is on behind %d strokes", name, at)
			}
			for _, picks := range crashes() {
				what := fmt.Sprint(name, ", off at ", at, ", Crash ", picks)
				w := s.cutOff(t, picks)
				met[want.wantCutOff(t, what, w)]++
				want.wantDone(t, what, w)
			}
		}
		if met["open true, the table that would be true"] == 0 || met["open false, the table that would be true"] == 0 {
			t.Errorf("%s: crashes left %v", name, met)
		}
	}
}

// eachCrash are picks for all that a crash can leave of a disk on which one file, a
// draft, has bytes that are not safe, and at most three changes of names are not.
func eachCrash(d *disk.Disk) [][]int {
	units := 0
	for _, f := range d.Files() {
		if strings.HasPrefix(f.Name, "+c.a.") {
			units = max(units, len(f.Data))
		}
	}
	var picks [][]int
	for names := range 4 {
		for unit := range units + 1 {
			picks = append(picks, slices.Concat([]int{names}, slices.Repeat([]int{unit}, 24)))
		}
	}
	return picks
}

// Whatever a crash leaves at each stroke, byte by byte.
func TestP17_4_EachCrash(t *testing.T) {
	for _, name := range []string{"one", "Take"} {
		x := scenes(t)[name]
		want, strokes := x.done(t)
		for at := 1; at <= strokes; at++ {
			s := x.make()
			s.disk.Plan(api.Plan{Off: at})
			x.ask.of(s)
			for _, picks := range eachCrash(s.disk) {
				what := fmt.Sprint(name, ", off at ", at, ", Crash ", picks[:2])
				w := s.cutOff(t, picks)
				want.wantCutOff(t, what, w)
				want.wantDone(t, what, w)
			}
		}
	}
}

// Each stroke is that of the words, and what a crash leaves of it, too.
func TestP17_4_CutOffAsTheWordsSay(t *testing.T) {
	for name, x := range scenes(t) {
		_, strokes := x.done(t)
		for at := 1; at <= strokes; at++ {
			s := x.make()
			s.disk.Plan(api.Plan{Off: at})
			s.want(t, fmt.Sprint(name, ", off at ", at), x.ask, api.ErrOff, api.ID{})
		}
	}
}

// Each Resume is cut off too, at each stroke, and resumed.
func TestP17_4_CutOffTwice(t *testing.T) {
	few := [][]int{nil, slices.Repeat([]int{-1}, 24), slices.Concat([]int{1}, slices.Repeat([]int{3}, 24))}
	for name, x := range scenes(t) {
		want, strokes := x.done(t)
		for at := 1; at <= strokes; at += 2 {
			s := x.make()
			s.disk.Plan(api.Plan{Off: at})
			x.ask.of(s)
			for _, picks := range few[:2] {
				again := 1
				for more := true; more; again++ {
					w := s.cutOff(t, picks)
					if !w.cache.Pending() {
						break
					}
					w.disk.Plan(api.Plan{Off: again})
					err := intake.Resume(w.cache)
					if more = err != nil; more && api.Code(err) != api.ErrOff {
						t.Fatalf("%s: %v", name, err)
					}
					for _, picks := range few {
						what := fmt.Sprint(name, ", off at ", at, ", again at ", again, ", Crash ", picks)
						v := w.cutOff(t, picks)
						want.wantCutOff(t, what, v)
						want.wantDone(t, what, v)
					}
				}
			}
		}
	}
}

// Cut off again and again, anywhere, with refusals for room among them; where none
// is open behind it, the restore begins anew.
func TestP17_4_AgainAndAgain(t *testing.T) {
	r := noise()
	list := scenes(t)
	names := slices.Sorted(maps.Keys(list))
	ends := map[bool]int{}
	for i := range 300 {
		name := names[i%len(names)]
		x := list[name]
		want, strokes := x.done(t)
		s := x.make()
		for range 1 + r.IntN(12) {
			s.disk.Plan(api.Plan{Off: 1 + r.IntN(strokes), From: r.IntN(strokes), To: r.IntN(strokes)})
			var err error
			if s.cache.Pending() {
				err = intake.Resume(s.cache)
			} else if !maps.Equal(filed(s.disk.Files()), want.done) {
				err = x.ask.of(s)
			}
			if code := api.Code(err); code != api.OK && code != api.ErrOff && code != api.ErrFull {
				t.Fatalf("%s: %v", name, err)
			}
			picks := []int{r.IntN(5)}
			for range 20 {
				picks = append(picks, r.IntN(99))
			}
			s = s.crashed(t, picks...)
			want.wantCutOff(t, name, s)
		}
		ends[s.cache.Pending()]++
		want.wantDone(t, name, s)
	}
	if ends[true] < 20 || ends[false] < 20 {
		t.Errorf("%v were open at last", ends)
	}
}

// A restore that is cut off and abandoned: no import is open, the cache is whole,
// and the restore may begin anew.
func TestP17_4_Abandoned(t *testing.T) {
	for name, x := range scenes(t) {
		want, strokes := x.done(t)
		for at := 1; at <= strokes; at++ {
			s := x.make()
			s.disk.Plan(api.Plan{Off: at})
			x.ask.of(s)
			for _, picks := range [][]int{nil, slices.Repeat([]int{-1}, 24)} {
				w := s.cutOff(t, picks)
				if err := intake.Abandon(w.cache); err != nil && api.Code(err) != api.ErrNoImport {
					t.Fatal(err)
				}
				what := fmt.Sprint(name, ", off at ", at, ", abandoned")
				w.wantOver(t, what)
				if err := x.ask.of(w); err != nil || !maps.Equal(filed(w.disk.Files()), want.done) {
					t.Errorf("%s: %v, %s", what, err, show(w.disk.Files()))
				}
			}
		}
	}
}

// The bundle is another one behind the crash: it is not resumed from that.
func TestP17_4_AnotherBundle(t *testing.T) {
	g := stock(8)
	for _, data := range []string{g.bundle(65), g.part(g.results[:2]...).bundle(64), goods{8, nil, nil}.bundle(64), "none"} {
		s := shelved(t, g, nil, nil)
		s.disk.Plan(api.Plan{Off: 12})
		ask{"f.x", acts(11, 12), api.Fail}.of(s)
		s = s.crashed(t)
		s.hand(t, "f.x", data)
		if err := intake.Resume(s.cache); api.Code(err) != api.ErrOther || !s.cache.Pending() {
			t.Errorf("%v", err)
		}
		s.hand(t, "f.x", g.bundle(64))
		if err := intake.Resume(s.cache); err != nil {
			t.Errorf("%v", err)
		}
		s.wantHolds(t, "the same again", g.part(g.results[:2]...).blobs, g.results[:2])
	}
}

// Behind the cut blocks of the bundle that are not needed are spoilt: it is resumed
// all the same.
func TestP17_4_SpoiltBehindTheCut(t *testing.T) {
	g := apart(32)
	data := g.bundle(16)
	face := faceOf(data, 32)
	need := blocksOf(packed{face: face, name: "f.x"}, g.needOf(g.results[3]))
	bad := data
	for _, b := range face.Blocks {
		if !slices.Contains(need, api.Span{Name: "f.x", At: b.At, N: b.Packed}) {
			bad = turned(bad, b.At)
		}
	}
	for at := 6; at < 40; at++ {
		s := stored(t, 32, nil, nil, of("f.x", data))
		s.disk.Plan(api.Plan{Off: at})
		err := ask{"f.x", actionsOf(g.results[3]), api.Keep}.of(s)
		if err == nil {
			break
		}
		s = s.crashed(t)
		s.hand(t, "f.x", bad)
		if s.cache.Pending() {
			err = intake.Resume(s.cache)
		}
		if err != nil {
			t.Errorf("off at %d: %v", at, err)
		}
		s.wantHolds(t, fmt.Sprint("off at ", at), g.part(g.results[3]).blobs, g.results[3:4])
	}
}

// The opening that takes drafts away is cut off too, ahead of a Resume.
func TestP17_4_TheOpeningIsCutOff(t *testing.T) {
	x := scenes(t)["drafts"]
	want, strokes := x.done(t)
	met := map[bool]int{}
	for at := 1; at <= strokes; at++ {
		for off := 1; off <= 4; off++ {
			s := x.make()
			s.disk.Plan(api.Plan{Off: at})
			x.ask.of(s)
			s.disk.Crash(slices.Repeat([]int{-1}, 24)...)
			s.disk.Plan(api.Plan{Off: off})
			_, err := cache.Open(s.disk, "a", 8)
			met[err == nil]++
			s = s.crashed(t, 1)
			want.wantCutOff(t, fmt.Sprint("off at ", at, " and ", off), s)
			want.wantDone(t, fmt.Sprint("off at ", at, " and ", off), s)
		}
	}
	if met[true] == 0 || met[false] == 0 {
		t.Errorf("%v were opened", met)
	}
}

// What is answered OK is safe: every crash leaves all files as they are.
func TestP0_12_Safe(t *testing.T) {
	for name, x := range scenes(t) {
		s := x.make()
		if err := x.ask.of(s); err != nil {
			t.Fatal(err)
		}
		for _, picks := range crashes() {
			v := s.disk.Twin()
			v.Crash(picks...)
			if !sameFiles(v.Files(), s.disk.Files()) {
				t.Errorf("%s, Crash %v: %s, want %s", name, picks, show(v.Files()), show(s.disk.Files()))
			}
		}
	}
}

// At each stroke every crash leaves a table that reads, blobs that have their ids,
// and a cache that is whole, if it was.
func TestP0_4_WholeBehindACrash(t *testing.T) {
	g := stock(8)
	for at := 1; at <= 40; at++ {
		s := shelved(t, g, nil, nil)
		s.disk.Plan(api.Plan{Off: at})
		ask{"f.x", acts(11, 13), api.Keep}.of(s)
		for _, picks := range crashes() {
			w := s.cutOff(t, picks)
			now := words{w.disk, "a", 8}
			results, is := now.table()
			if found := follow(now.get, results); !is || found.code != api.OK || len(now.blobFiles()) != len(now.there()) {
				t.Errorf("off at %d, Crash %v: %v", at, picks, found.said)
			}
		}
	}
}
