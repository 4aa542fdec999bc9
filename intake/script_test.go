package intake_test

import (
	"fmt"
	"slices"
	"testing"

	"freight/api"
	"freight/intake"
)

// choice is a number from 0 on, below the one that is handed in.
type choice func(below int) int

const scriptWidth = 1

// script is a cache on a disk, the bundles that come into it, and the Readers that
// were opened.
type script struct {
	store   *store
	goods   []goods
	bundles []string
	readers []source
	met     map[said]int // how often a call said what, whatever the id
}

// clashingGoods have a blob that clashes with one of the stock's.
func clashingGoods() goods {
	other := clash(scriptWidth, crate)
	root := filesTree(scriptWidth, other)
	return goods{scriptWidth, []string{other, root}, []api.Result{res(12, idOf(scriptWidth, root), 1), res(30, idOf(scriptWidth, root), 1)}}
}

// manyGoods have more blobs and results than fit into the script's cache.
func manyGoods() goods {
	g := goods{width: scriptWidth, blobs: strangers(scriptWidth, 20)}
	root := filesTree(scriptWidth, g.blobs...)
	g.blobs = append(g.blobs, root)
	g.results = resultsFrom(40, 28, idOf(scriptWidth, root))
	return g
}

// newScript has few blobs, of a width at which some clash, and a cache that is
// nearly full of others, so that what is drawn meets much.
func newScript(t testing.TB) *script {
	s := &script{met: map[said]int{}}
	s.goods = []goods{stock(scriptWidth), clashingGoods(), manyGoods(), {width: scriptWidth}}
	var all []string
	for _, g := range s.goods {
		all = append(all, g.blobs...)
		s.bundles = append(s.bundles, g.bundle(32))
	}
	first := s.goods[0].bundle(64)
	s.bundles = append(s.bundles, first, withID(first, scriptWidth, 2), stock(2).bundle(32), goods{scriptWidth, s.goods[0].blobs[1:], s.goods[0].results}.bundle(32), "", "none")
	others := strangers(scriptWidth, 112, all...)
	s.store = stored(t, scriptWidth, others, resultsFrom(200, 2, api.ID{}), of("f.x", s.bundles[0]), of("f.y", s.bundles[1]))
	return s
}

func (s *script) anyGoods(choose choice) goods { return s.goods[choose(len(s.goods))] }

func (s *script) anyName(choose choice) string {
	return []string{"f.x", "f.x", "f.x", "f.y", "f.y", "f.z", "F", "c.a.import", "+c.a.import"}[choose(9)]
}

// change does something to the cache or its disk.
func (s *script) change(t testing.TB, choose choice) string {
	c, d := s.store.cache, s.store.disk
	g := s.anyGoods(choose)
	blob := append(slices.Clone(g.blobs), "")[choose(len(g.blobs)+1)]
	switch choose(14) {
	case 0, 1:
		_, err := c.Put([]byte(blob))
		return fmt.Sprint("put: ", api.Code(err))
	case 2, 3:
		return fmt.Sprint("drop: ", api.Code(c.Drop(g.id(blob))))
	case 4:
		results, _ := c.Table()
		for k := range results {
			results[k].Code = choose(2)
		}
		return fmt.Sprint("swap: ", api.Code(c.Swap(results[:choose(len(results)+1)])))
	case 5, 6:
		return s.layBundle(choose)
	case 7:
		name := []string{"f.x", blobName("a", g.id(blob)), "c.a.table", "c.a.import"}[choose(4)]
		size, _ := d.Size(name)
		return fmt.Sprint("write ", name, ": ", d.WriteAt(name, choose(size+1), []byte{byte(choose(256))}), d.Sync(name))
	case 8:
		name := []string{"f.x", "c.a.import", "c.a.table", "+c.a.import"}[choose(4)]
		return fmt.Sprint("remove ", name, ": ", d.Remove(name), d.SyncNames())
	case 9:
		return s.layJournal(choose)
	case 10, 11:
		d.Plan(api.Plan{Off: choose(50), From: choose(40), To: choose(40)})
		return "plan"
	case 12:
		name := []string{"+c.a.import", "+c.a.table", "c.a.import", "+" + blobName("a", g.id(blob))}[choose(4)]
		return fmt.Sprint("make ", name, ": ", d.Create(name))
	}
	picks := []int{choose(9)}
	for range 140 {
		picks = append(picks, choose(90))
	}
	d.Crash(picks...)
	s.store = opened(t, d, "a", scriptWidth)
	return "crash"
}

// layBundle lays a bundle by hand, safe or not.
func (s *script) layBundle(choose choice) string {
	d, name, data := s.store.disk, []string{"f.x", "f.y"}[choose(2)], s.bundles[choose(len(s.bundles))]
	d.Remove(name)
	d.Create(name)
	d.Append(name, []byte(data))
	if choose(4) > 0 {
		d.Sync(name)
		d.SyncNames()
	}
	return "lay " + name
}

// layJournal lays a journal by hand, some of them none.
func (s *script) layJournal(choose choice) string {
	g := s.anyGoods(choose)
	table, _ := s.store.cache.Table()
	j := g.journal(32, table...)
	switch choose(8) {
	case 0:
		j.Need = j.Need[choose(len(j.Need)+1):]
	case 1:
		j.Index ^= 1
	case 2:
		j.Need = rising(append(j.Need, api.ID{byte(choose(256))})...)
	case 3:
		j.Table = g.results
	case 4:
		j.Results = append([]api.Result{res(1, api.ID{byte(choose(256))}, 0)}, j.Results...)
	case 5:
		j.Bundle = "F"
	}
	d := s.store.disk
	d.Remove("c.a.import")
	return fmt.Sprint("journal: ", d.Create("c.a.import"), d.Append("c.a.import", []byte(formByWords(j))), d.Sync("c.a.import"), d.SyncNames())
}

// part is a call with drawn arguments.
func (s *script) part(t testing.TB, choose choice) doing {
	g := s.anyGoods(choose)
	results, need := g.results, g.ids()
	switch choose(8) {
	case 0:
		need = need[choose(len(need)+1):]
	case 1:
		results = results[choose(len(results)+1):]
	case 2:
		need = rising(append(need, api.ID{byte(choose(256))})...)
	case 3:
		if k := choose(len(results) + 1); k < len(results) {
			results = results[k : k+1]
			need = g.needOf(results...)
		}
	case 4:
		if choose(4) == 0 {
			need = slices.Concat(need, need, ids(1))
		}
	}
	policy := []int{1, 2, 3, 1, 2, 3, 1, 2, 3, 0}[choose(10)]
	return taking(s.readers[choose(len(s.readers))], results, need, policy)
}

// drawn is a call of the package with drawn arguments.
func (s *script) drawn(t testing.TB, choose choice) doing {
	switch choose(10) {
	case 0, 1, 2, 3:
		return importing(s.anyName(choose), []int{1, 2, 3, 1, 2, 3, 1, 2, 3, 0, 4}[choose(11)])
	case 4:
		return abandoning()
	case 5, 6:
		if len(s.readers) > 0 {
			return s.part(t, choose)
		}
	}
	return resuming()
}

// step changes something, or holds a call against the words.
func (s *script) step(t testing.TB, choose choice) string {
	t.Helper()
	switch choose(5) {
	case 0, 1:
		return s.change(t, choose)
	case 2:
		s.wantJournalByWords(t)
		if _, is := shown(s.store.disk, "f.x"); is && !s.store.disk.Off() {
			return s.open(choose)
		}
		return "journal"
	}
	d := s.drawn(t, choose)
	got := s.store.wantAsTheWordsSay(t, d.op, d)
	got.id = api.ID{}
	s.met[got]++
	if s.store.disk.Off() && choose(3) == 0 {
		s.store = s.store.crashed(t, choose(9), choose(50), choose(50), choose(50))
	}
	return fmt.Sprint(d.op, ": ", got.code)
}

// wantJournalByWords asks Journal for what the words say of the disk.
func (s *script) wantJournalByWords(t testing.TB) {
	t.Helper()
	data, is := shown(s.store.disk, "c.a.import")
	j, isForm := decodeByWords(data)
	switch {
	case s.store.disk.Off():
		s.store.wantNoJournal(t, "off", api.ErrOff)
	case !is:
		s.store.wantNoJournal(t, "none", api.ErrNoImport)
	case !isForm:
		s.store.wantNoJournal(t, "no form", api.ErrJournal)
	default:
		s.store.wantJournal(t, "journal", j)
	}
}

// open keeps one Reader more, or forgets them.
func (s *script) open(choose choice) string {
	if choose(6) == 0 {
		s.readers = nil
	}
	r, err := openReader(s.store.disk, []string{"f.x", "f.y"}[choose(2)])
	if err == nil {
		s.readers = append(s.readers, r)
	}
	return fmt.Sprint("open: ", api.Code(err))
}

// Changes of the cache and by hand, plans, crashes and calls in any order.
func TestScripts(t *testing.T) {
	r := noise()
	met := map[said]int{}
	for i := range 160 {
		s := newScript(t)
		s.met = met
		var steps []string
		for range 50 {
			steps = append(steps, s.step(t, r.IntN))
			if t.Failed() {
				t.Fatalf("script %d: %q", i, steps)
			}
		}
	}
	for _, code := range []api.Errno{api.OK, api.ErrArg, api.ErrName, api.ErrOff, api.ErrOpen, api.ErrNone, api.ErrBundle, api.ErrDigest, api.ErrMissing, api.ErrNoBlob,
		api.ErrCache, api.ErrCollision, api.ErrConflict, api.ErrBlobs, api.ErrFull, api.ErrNoImport, api.ErrJournal, api.ErrOther} {
		if met[said{code: code}] < 5 {
			t.Errorf("%d is met %d times", code, met[said{code: code}])
		}
	}
}

func FuzzAsTheWordsSay(f *testing.F) {
	f.Add([]byte{})
	f.Add([]byte{3, 0, 0, 1, 0, 10, 7, 6, 6, 3, 0, 0, 1, 1, 0, 13, 1, 2, 3, 4, 5})
	f.Fuzz(func(t *testing.T, draws []byte) {
		s := newScript(t)
		choose := func(below int) int {
			if len(draws) == 0 {
				return 0
			}
			first := int(draws[0])
			draws = draws[1:]
			return first % below
		}
		for n := 0; len(draws) > 0 && n < 100; n++ {
			s.step(t, choose)
		}
	})
}

// An import that is cut off by nothing answers the same, however often it is asked
// of twins.
func TestW2_AsOftenAsItIsAsked(t *testing.T) {
	s := newScript(t).store
	for range 50 {
		w := s.twin(t)
		w.disk.Plan(api.Plan{From: 17, To: 17})
		wantFault(t, "again", intake.Import(w.cache, "f.x", api.Take), "intake.import", "a", api.ErrFull, stock(scriptWidth).ids()[2])
	}
}
