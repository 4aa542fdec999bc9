package intake_test

import (
	"fmt"
	"maps"
	"slices"
	"strings"
	"testing"

	"freight/api"
	"freight/intake"
)

// Each error of Import up to its 4, and of Part up to its 3, alone: no import is
// open that was not, and all files are as they were, but the journal's draft where
// a Put was refused.
func TestP16_7_UpToTheJournal(t *testing.T) {
	calls := map[string]func(l *lot, from source) doing{
		"Import": func(l *lot, from source) doing { return importing(l.file, l.policy) },
		"Part":   func(l *lot, from source) doing { return taking(from, l.results, l.need, l.policy) },
	}
	for name, list := range map[string][]wrong{"Import": ofImport(), "Part": slices.Concat(ofPart(0)[:5], ofPart(1), ofPart(2), ofPart(3))} {
		for _, w := range list {
			for _, draft := range []string{"", "left of a crash"} {
				l := newLot()
				w.spoil(l)
				off, plan := l.off, l.plan
				l.off, l.plan = false, api.Plan{}
				if plan.From > 0 {
					plan.To = 2 // the stroke 1 may be that of the draft's Remove
				}
				s, from := l.made(t)
				if draft != "" {
					s.hand(t, "+c.a.import", draft)
				}
				if off {
					darken(t, s.disk)
				}
				s.disk.Plan(plan)
				before, open := s.disk.Files(), s.cache.Pending()
				s.want(t, name, calls[name](l, from), w.code, w.id)
				if w.code == api.ErrFull {
					before = without(before, "+c.a.import")
				}
				if !sameFiles(s.disk.Files(), before) || s.cache.Pending() != open {
					t.Errorf("%s, %d: %s, want %s", name, w.code, show(s.disk.Files()), show(before))
				}
			}
		}
	}
}

// Behind the journal every error leaves the import open, with its journal; the
// table stays, and each blob that was there.
func TestP16_7_BehindTheJournal(t *testing.T) {
	for name, x := range scenes(t) {
		want, strokes := x.done(t)
		met := map[bool]int{}
		for at := 1; at <= strokes; at++ {
			s := x.make()
			d := x.call(s)
			open := s.cache.Pending()
			began := s.disk.Strokes()
			s.disk.Plan(api.Plan{From: at, To: at})
			err := d.call(s)
			if err == nil {
				continue
			}
			what := fmt.Sprint(name, ", no room at ", at)
			_, hadDraft := shown(x.make().disk, "+c.a.import")
			journal := 5
			if hadDraft {
				journal++
			}
			isBehind := open || at > journal
			met[isBehind]++
			if s.cache.Pending() != isBehind || api.Code(err) != api.ErrFull {
				t.Errorf("%s: open %t: %v", what, s.cache.Pending(), err)
			}
			if isBehind {
				s.wantJournal(t, what, x.journal)
			}
			before, now := asMap(want.before), asMap(s.disk.Files())
			for file, data := range before {
				if now[file] != data && !strings.HasPrefix(file, "c.a.b.") {
					t.Errorf("%s: %.20s is another", what, file)
				}
			}
			if s.disk.Strokes()-began < at {
				t.Errorf("%s: %d strokes", what, s.disk.Strokes()-began)
			}
		}
		isResume := strings.HasPrefix(name, "resume")
		if (met[true] == 0) != (name == "import, nothing new") || (met[false] == 0) != isResume {
			t.Errorf("%s: behind the journal: %v", name, met)
		}
	}
}

// drawnGoods are a bundle's: some rows, and trees of them, each with files and
// folders of those ahead; all of it is needed.
func drawnGoods(choose choice, width int) goods {
	g := goods{width: width}
	seen := map[api.ID]string{}
	add := func(blob string) bool {
		if other, is := seen[g.id(blob)]; is {
			return other == blob
		}
		seen[g.id(blob)] = blob
		g.blobs = append(g.blobs, blob)
		return true
	}
	for range 1 + choose(5) {
		add(times(choose(40), string(rune('a'+choose(4)))))
	}
	rows := len(g.blobs)
	for k := range 1 + choose(4) {
		var entries []api.Entry
		for range choose(5) {
			at := choose(len(g.blobs))
			if e := aFile(g.id(g.blobs[at])); at < rows || choose(3) == 0 {
				entries = append(entries, e)
			} else {
				entries = append(entries, aFolder(e.ID))
			}
		}
		if root := treeOf(entries...); add(root) {
			g.results = append(g.results, res(byte(10+k), g.id(root), choose(2)))
		}
	}
	need, _ := needByWords(g.byID(), g.results)
	g.blobs = slices.DeleteFunc(g.blobs, func(b string) bool { return need[g.id(b)] == 0 })
	return g
}

// drawnStore is a cache with some of the goods, some clashes, damage and others,
// and a table.
func drawnStore(t testing.TB, choose choice, g goods) *store {
	files := map[string]string{"f.x": g.bundle(16 + choose(60)), "f.other": "other"}
	for _, b := range g.blobs {
		switch choose(12) {
		case 0, 1, 2:
			files[blobName("a", g.id(b))] = b
		case 3:
			files[blobName("a", g.id(b))] = "damage to " + b
		case 4:
			if choose(6) == 0 && g.width == 1 {
				files[blobName("a", g.id(b))] = clash(1, b)
			}
		}
	}
	for range choose(4) {
		own := fmt.Sprint("own ", choose(9))
		files[blobName("a", g.id(own))] = own
	}
	var ours []api.Result
	for action := 8; action < 16; action++ {
		if choose(3) == 0 && len(g.results) > 0 {
			ours = append(ours, res(byte(action), g.results[choose(len(g.results))].Root, choose(3)))
		}
	}
	if len(ours) > 0 {
		files["c.a.table"] = tableForm(ours)
	}
	var list []api.FileBytes
	for _, name := range slices.Sorted(maps.Keys(files)) {
		list = append(list, of(name, files[name]))
	}
	return opened(t, mustLoad(t, api.MaxRoom, list...), "a", g.width)
}

// wantFollows asks for P16.8 behind an OK, of what there was ahead of it.
func (s *store) wantFollows(t testing.TB, what string, before words, g goods, j api.Journal) {
	t.Helper()
	if s.cache.Pending() {
		t.Errorf("%s: it is open", what)
	}
	for _, id := range j.Need {
		if got, err := s.cache.Get(id); err != nil || string(got) != g.byID()[id] {
			t.Errorf("%s: %x: %.20q, %v, want %.20q", what, id[:3], got, err, g.byID()[id])
		}
	}
	for id, data := range before.there() {
		if got, err := s.cache.Get(id); err != nil || string(got) != data {
			t.Errorf("%s: %x was there: %.20q, %v, want %.20q", what, id[:3], got, err, data)
		}
	}
	if got, err := s.cache.Table(); err != nil || !slices.Equal(got, j.Table) {
		t.Errorf("%s: table %v, %v, want %v", what, got, err, j.Table)
	}
	others := func(files []api.FileBytes) []api.FileBytes {
		return slices.DeleteFunc(files, func(f api.FileBytes) bool { return strings.HasPrefix(f.Name, "c.a.") })
	}
	if !sameFiles(others(s.disk.Files()), others(before.disk.Files())) {
		t.Errorf("%s: other files: %s", what, show(s.disk.Files()))
	}
}

// Drawn bundles into drawn caches, by each of the three calls.
func TestP16_8_Drawn(t *testing.T) {
	r := noise()
	met := map[api.Errno]int{}
	for i := range 1500 {
		g := drawnGoods(r.IntN, []int{1, 2, 32}[i%3])
		s := drawnStore(t, r.IntN, g)
		before := words{s.disk.Twin(), "a", g.width}
		policy := policies()[r.IntN(3)]
		results := slices.DeleteFunc(slices.Clone(g.results), func(api.Result) bool { return r.IntN(3) == 0 })
		d := taking(s.reader(t, "f.x"), results, g.needOf(results...), policy)
		if i%2 == 0 {
			results = g.results
			d = importing("f.x", policy)
		}
		what := fmt.Sprint(i, ": ", d.op)
		s.disk.Plan(api.Plan{From: r.IntN(60), To: r.IntN(60)})
		got := s.wantAsTheWordsSay(t, what, d)
		for got.code == api.ErrFull && s.cache.Pending() {
			s.disk.Plan(api.Plan{From: r.IntN(60), To: r.IntN(60)})
			got = s.wantAsTheWordsSay(t, what+", resumed", resuming())
		}
		met[got.code]++
		if got.code != api.OK {
			continue
		}
		held, _ := before.table()
		table, _ := unionByWords(held, results, policy)
		s.wantFollows(t, what, before, g, api.Journal{Need: g.needOf(results...), Table: table})
	}
	for _, code := range []api.Errno{api.OK, api.ErrConflict, api.ErrCollision, api.ErrFull} {
		if met[code] < 10 {
			t.Errorf("%d is met %d times", code, met[code])
		}
	}
}

// What an import needs at most.
func TestP0_11_Strokes(t *testing.T) {
	r := noise()
	for i := range 300 {
		g := drawnGoods(r.IntN, 32)
		s := drawnStore(t, r.IntN, g)
		there := words{s.disk, "a", 32}.there()
		laid := slices.DeleteFunc(g.ids(), func(id api.ID) bool { _, is := there[id]; return is })
		if err := intake.Import(s.cache, "f.x", api.Take); err != nil {
			t.Fatalf("%d: %v", i, err)
		}
		if got := s.disk.Strokes(); got > 5*len(laid)+12 || got < 5*len(laid)+7 {
			t.Errorf("%d: %d strokes for %d blobs", i, got, len(laid))
		}
	}
}

// Imported twice, under each policy behind each: the second one changes nothing but
// what Take takes.
func TestP16_8_Twice(t *testing.T) {
	g := stock(32)
	changed := g.results[0]
	changed.Code = 99
	for _, first := range []int{api.Keep, api.Take} {
		for _, second := range policies() {
			s := shelved(t, g, nil, []api.Result{changed})
			s.want(t, "first", importing("f.x", first), api.OK, api.ID{})
			before := s.disk.Files()
			if first == api.Keep && second == api.Fail {
				s.wantRefused(t, "second", importing("f.x", second), api.ErrConflict, changed.Action)
				continue
			}
			s.want(t, "second", importing("f.x", second), api.OK, api.ID{})
			if same := sameFiles(s.disk.Files(), before); same == (first == api.Keep && second == api.Take) {
				t.Errorf("%d, then %d: the same %t", first, second, same)
			}
		}
	}
}
