package intake_test

import (
	"fmt"
	"maps"
	"slices"
	"testing"

	"freight/api"
	"freight/cache"
	"freight/intake"
)

// scene is a call on a store on which all is safe: how it is made, and the journal
// that the import has.
type scene struct {
	make    func() *store
	call    func(s *store) doing
	journal api.Journal
}

// scenes are of all three calls, with much to do and with little.
func scenes(t testing.TB) map[string]scene {
	g := stock(8)
	own, changed := res(1, g.results[2].Root, 9), g.results[1]
	changed.Code = 3
	ours := []api.Result{own, changed}
	part := g.journal(64, own, g.results[1])
	part.Results, part.Need = g.results[1:2], g.needOf(g.results[1])
	whole := func(policy int) func(s *store) doing {
		return func(s *store) doing { return importing("f.x", policy) }
	}
	resume := func(s *store) doing { return resuming() }
	mixed := func() *store {
		return shelved(t, g, []string{g.blobs[5], "own"}, ours, of(blobName("a", g.id(crate)), "damage"), of("c.b.import", "theirs"))
	}
	return map[string]scene{
		"import, an empty cache": {func() *store { return shelved(t, g, nil, nil) }, whole(api.Fail), g.journal(64, g.results...)},
		"import, Take":           {mixed, whole(api.Take), g.journal(64, append([]api.Result{own}, g.results...)...)},
		"import, Keep":           {mixed, whole(api.Keep), g.journal(64, own, g.results[0], changed, g.results[2], g.results[3])},
		"import, nothing new":    {func() *store { return shelved(t, g, g.blobs, g.results) }, whole(api.Fail), g.journal(64, g.results...)},
		"part": {mixed, func(s *store) doing {
			return taking(s.reader(t, "f.x"), g.results[1:2], part.Need, api.Take)
		}, part},
		"resume": {func() *store { return mixed().crashed(t).journaled(t, part).crashed(t) }, resume, part},
		"resume, no table": {func() *store {
			return shelved(t, g, nil, nil, of("c.a.table", "no table"), of("c.a.import", formByWords(part)))
		}, resume, part},
		"import, drafts": {func() *store {
			s := shelved(t, g, g.blobs[:4], nil)
			for _, name := range []string{"+c.a.import", "+c.a.table", "+" + blobName("a", g.id(g.blobs[5])), "+c.b.table"} {
				s.hand(t, name, "left of a crash")
			}
			s.disk.Crash()
			return s
		}, whole(api.Take), g.journal(64, g.results...)},
	}
}

// crashed is the store behind a crash, opened anew.
func (s *store) crashed(t testing.TB, picks ...int) *store {
	t.Helper()
	s.disk.Crash(picks...)
	return opened(t, s.disk, s.name, s.width)
}

// cutOff is a twin behind a crash, opened anew.
func (s *store) cutOff(t testing.TB, picks []int) *store {
	t.Helper()
	d := s.disk.Twin()
	d.Crash(picks...)
	return opened(t, d, s.name, s.width)
}

// state is what the disk held ahead of a call, and what it would hold behind it.
type state struct {
	before, done []api.FileBytes
	journal      api.Journal
}

// wantCutOff asks for what P16.10 lets a cut off call leave behind a crash; it
// tells what that was.
func (x state) wantCutOff(t *testing.T, what string, s *store) string {
	t.Helper()
	now, was, will := asMap(s.disk.Files()), asMap(x.before), asMap(x.done)
	isOpen := s.cache.Pending()
	if isOpen {
		s.wantJournal(t, what, x.journal)
	} else if !maps.Equal(now, was) && !maps.Equal(now, will) {
		t.Fatalf("%s: none is open, and there is %s", what, show(s.disk.Files()))
	}
	need := map[string]int{"c.a.import": 1, "c.a.table": 1}
	for _, id := range x.journal.Need {
		need[blobName("a", id)]++
	}
	for name := range unionOf(now, was) {
		data, is := now[name]
		old, had := was[name]
		fresh, has := will[name]
		asWas := is == had && data == old
		asWill := is == has && data == fresh
		if !asWas && !(asWill && need[name] > 0) && !(name == "c.a.import" && isOpen) {
			t.Fatalf("%s: %.20s is %.20q (there %t), was %.20q", what, name, data, is, old)
		}
	}
	isDone := now["c.a.table"] == will["c.a.table"]
	return fmt.Sprint("open ", isOpen, ", the table that would be ", isDone)
}

func asMap(files []api.FileBytes) map[string]string {
	m := map[string]string{}
	for _, f := range undrafted(files) {
		m[f.Name] = string(f.Data)
	}
	return m
}

func unionOf(one, other map[string]string) map[string]string {
	both := maps.Clone(one)
	maps.Copy(both, other)
	return both
}

// wantDone resumes, if it is open, and asks for what the call would have left.
func (x state) wantDone(t *testing.T, what string, s *store) {
	t.Helper()
	if !s.cache.Pending() {
		return
	}
	if err := intake.Resume(s.cache); err != nil {
		t.Fatalf("%s, resumed: %v", what, err)
	}
	if !maps.Equal(asMap(s.disk.Files()), asMap(x.done)) || !sameFiles(s.disk.Safe(), s.disk.Files()) {
		t.Fatalf("%s, resumed: %s, want %s", what, show(s.disk.Files()), show(x.done))
	}
	if s.cache.Pending() {
		t.Fatalf("%s, resumed: it is open", what)
	}
}

// done is the state of a scene, and how many strokes its call has.
func (x scene) done(t testing.TB) (state, int) {
	t.Helper()
	s := x.make()
	before := s.disk.Twin()
	if err := x.call(s).call(s); err != nil {
		t.Fatal(err)
	}
	return state{undrafted(before.Files()), undrafted(s.disk.Files()), x.journal}, s.disk.Strokes() - before.Strokes()
}

// The power goes off at each stroke of each call, all crashes come, and the import
// is resumed.
func TestP16_10_CutOff(t *testing.T) {
	for name, x := range scenes(t) {
		want, strokes := x.done(t)
		met := map[string]int{}
		for at := 1; at <= strokes; at++ {
			s := x.make()
			d := x.call(s)
			s.disk.Plan(api.Plan{Off: at})
			wantFault(t, fmt.Sprint(name, ", off at ", at), d.call(s), d.op, "a", api.ErrOff, api.ID{})
			if !s.disk.Off() {
				t.Fatalf("%s: the power is on behind %d strokes", name, at)
			}
			for _, picks := range crashes() {
				what := fmt.Sprint(name, ", off at ", at, ", Crash ", picks)
				w := s.cutOff(t, picks)
				met[want.wantCutOff(t, what, w)]++
				want.wantDone(t, what, w)
			}
		}
		if met["open true, the table that would be true"] == 0 || met["open false, the table that would be true"] == 0 {
			t.Errorf("%s: crashes left %v", name, met)
		}
	}
}

// Each Resume is cut off too, at each stroke, and resumed.
func TestP16_10_CutOffTwice(t *testing.T) {
	few := [][]int{nil, slices.Repeat([]int{-1}, 24), slices.Concat([]int{1}, slices.Repeat([]int{3}, 24))}
	for name, x := range scenes(t) {
		want, strokes := x.done(t)
		for at := 1; at <= strokes; at += 2 {
			s := x.make()
			d := x.call(s)
			s.disk.Plan(api.Plan{Off: at})
			d.call(s)
			for _, picks := range few[:2] {
				again := 1
				for more := true; more; again++ {
					w := s.cutOff(t, picks)
					if !w.cache.Pending() {
						break
					}
					w.disk.Plan(api.Plan{Off: again})
					err := intake.Resume(w.cache)
					if more = err != nil; more {
						wantFault(t, name, err, "intake.resume", "a", api.ErrOff, api.ID{})
					}
					for _, picks := range few {
						what := fmt.Sprint(name, ", off at ", at, ", again at ", again, ", Crash ", picks)
						v := w.cutOff(t, picks)
						want.wantCutOff(t, what, v)
						want.wantDone(t, what, v)
					}
				}
			}
		}
	}
}

// Cut off again and again, anywhere, with refusals for room among them.
func TestP16_10_AgainAndAgain(t *testing.T) {
	r := noise()
	list := scenes(t)
	names := slices.Sorted(maps.Keys(list))
	ends := map[bool]int{}
	for i := range 400 {
		name := names[i%len(names)]
		x := list[name]
		want, strokes := x.done(t)
		s := x.make()
		d := x.call(s)
		for range 1 + r.IntN(12) {
			s.disk.Plan(api.Plan{Off: 1 + r.IntN(strokes), From: r.IntN(strokes), To: r.IntN(strokes)})
			err := d.call(s)
			if code := api.Code(err); code != api.OK && code != api.ErrOff && code != api.ErrFull {
				t.Fatalf("%s: %v", name, err)
			}
			picks := []int{r.IntN(5)}
			for range 20 {
				picks = append(picks, r.IntN(99))
			}
			s = s.crashed(t, picks...)
			want.wantCutOff(t, name, s)
			d = resuming()
			if !s.cache.Pending() {
				break
			}
		}
		ends[s.cache.Pending()]++
		want.wantDone(t, name, s)
	}
	if ends[true] < 20 || ends[false] < 20 {
		t.Errorf("%v were open at last", ends)
	}
}

// The opening that takes drafts away is cut off too, ahead of a Resume.
func TestP16_10_TheOpeningIsCutOff(t *testing.T) {
	x := scenes(t)["import, drafts"]
	want, strokes := x.done(t)
	met := map[bool]int{}
	for at := 1; at <= strokes; at++ {
		for off := 1; off <= 4; off++ {
			s := x.make()
			d := x.call(s)
			s.disk.Plan(api.Plan{Off: at})
			d.call(s)
			s.disk.Crash(slices.Repeat([]int{-1}, 24)...)
			s.disk.Plan(api.Plan{Off: off})
			_, err := cache.Open(s.disk, "a", 8)
			met[err == nil]++
			s = s.crashed(t, 1)
			want.wantCutOff(t, fmt.Sprint("off at ", at, " and ", off), s)
			want.wantDone(t, fmt.Sprint("off at ", at, " and ", off), s)
		}
	}
	if met[true] == 0 || met[false] == 0 {
		t.Errorf("%v were opened", met)
	}
}

// Without a crash, an error for room at any stroke: the import goes on, and leaves
// what it would have left.
func TestP16_10_RefusedAndResumed(t *testing.T) {
	for name, x := range scenes(t) {
		want, strokes := x.done(t)
		for at := 1; at <= strokes; at++ {
			s := x.make()
			d := x.call(s)
			s.disk.Plan(api.Plan{From: at, To: at})
			err := d.call(s)
			if err == nil {
				continue
			}
			what := fmt.Sprint(name, ", no room at ", at)
			want.wantCutOff(t, what, s)
			if !s.cache.Pending() {
				continue
			}
			want.wantDone(t, what, s)
		}
	}
}

// At each stroke every crash leaves a table that reads, blobs that have their ids,
// and a cache that is whole, if it was.
func TestP0_4_WholeBehindACrash(t *testing.T) {
	g := stock(8)
	for at := 1; at <= 42; at++ {
		s := shelved(t, g, nil, nil)
		s.disk.Plan(api.Plan{Off: at})
		intake.Import(s.cache, "f.x", api.Keep)
		for _, picks := range crashes() {
			w := s.cutOff(t, picks)
			results, err := w.cache.Table()
			if err != nil {
				t.Fatalf("off at %d, Crash %v: %v", at, picks, err)
			}
			there := words{w.disk, "a", 8}.there()
			if _, lacks := needByWords(there, results); lacks.code != api.OK {
				t.Errorf("off at %d, Crash %v: %v", at, picks, lacks)
			}
			if files := (words{w.disk, "a", 8}).blobFiles(); len(files) != len(there) {
				t.Errorf("off at %d, Crash %v: damage", at, picks)
			}
		}
	}
}

// What is answered OK is safe: every crash leaves all files as they are.
func TestP0_12_Safe(t *testing.T) {
	for name, x := range scenes(t) {
		s := x.make()
		d := x.call(s)
		if err := d.call(s); err != nil {
			t.Fatal(err)
		}
		for _, picks := range crashes() {
			v := s.disk.Twin()
			v.Crash(picks...)
			if !sameFiles(v.Files(), s.disk.Files()) {
				t.Errorf("%s, Crash %v: %s, want %s", name, picks, show(v.Files()), show(s.disk.Files()))
			}
		}
	}
}
