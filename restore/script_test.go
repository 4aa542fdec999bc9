package restore_test

import (
	"fmt"
	"slices"
	"testing"

	"freight/api"
	"freight/intake"
)

// choice is a number from 0 on, below the one that is handed in.
type choice func(below int) int

const scriptWidth = 1

// script is a cache on a disk, and the bundles that come into it.
type script struct {
	store   *store
	goods   []goods
	bundles []string
	met     map[api.Errno]int // how often a restore said what
}

// clashingGoods have a blob that clashes with one of the stock's.
func clashingGoods() goods {
	other := clash(scriptWidth, crate)
	root := filesTree(scriptWidth, other)
	return goods{scriptWidth, []string{other, root}, []api.Result{res(12, idOf(scriptWidth, root), 1), res(30, idOf(scriptWidth, root), 1)}}
}

// manyGoods have more blobs and results than fit into the script's cache.
func manyGoods() goods {
	g := goods{width: scriptWidth, blobs: strangers(scriptWidth, 20)}
	root := filesTree(scriptWidth, g.blobs...)
	g.blobs = append(g.blobs, root)
	g.results = resultsFrom(40, 28, idOf(scriptWidth, root))
	return g
}

// brokenGoods have results whose need is not whole, beside one whose need is.
func brokenGoods() goods {
	deep := treeOf(aFile(idOf(scriptWidth, crate)))
	blobs := []string{crate, pallet, deep}
	for range 6 {
		deep = treeOf(aFolder(idOf(scriptWidth, deep)), aRun(idOf(scriptWidth, pallet)))
		blobs = append(blobs, deep)
	}
	lack := treeOf(aFile(api.ID{250, 1}))
	return goods{scriptWidth, append(blobs, lack), []api.Result{
		res(11, idOf(scriptWidth, blobs[2]), 0), res(12, idOf(scriptWidth, pallet), 0), res(13, idOf(scriptWidth, lack), 0), res(14, idOf(scriptWidth, deep), 0)}}
}

// forgedBundle says of a blob that a result needs that it has another id than its
// own.
func forgedBundle() string {
	id := idOf(scriptWidth, pallet)
	id[scriptWidth-1] ^= 1
	root := treeOf(aFile(id))
	g := goods{scriptWidth, []string{pallet, root}, []api.Result{res(11, idOf(scriptWidth, root), 0), res(12, id, 0)}}
	return withID(g.bundle(16), scriptWidth, slices.Index(g.inOrder(), pallet))
}

// newScript has few blobs, of a width at which some clash, and a cache that is
// nearly full of others, so that what is drawn meets much.
func newScript(t testing.TB) *script {
	s := &script{met: map[api.Errno]int{}}
	s.goods = []goods{stock(scriptWidth), clashingGoods(), manyGoods(), {width: scriptWidth}, brokenGoods()}
	var all []string
	for _, g := range s.goods {
		all = append(all, g.blobs...)
		s.bundles = append(s.bundles, g.bundle(16))
	}
	first := s.bundles[0]
	s.bundles = append(s.bundles, s.goods[0].bundle(64), withID(first, scriptWidth, 2), forgedBundle(), stock(2).bundle(32), "", "none")
	for _, g := range s.goods[:2] {
		s.bundles = append(s.bundles, spoilt(g.bundle(16), scriptWidth, g.results[0].Root))
	}
	others := strangers(scriptWidth, 112, all...)
	s.store = stored(t, scriptWidth, others, resultsFrom(200, 2, api.ID{}), of("f.x", s.bundles[0]), of("f.y", s.bundles[4]))
	return s
}

// change does something to the cache or its disk.
func (s *script) change(t testing.TB, choose choice) string {
	c, d := s.store.cache, s.store.disk
	g := s.goods[choose(len(s.goods))]
	blob := append(slices.Clone(g.blobs), "")[choose(len(g.blobs)+1)]
	switch choose(15) {
	case 0, 1:
		_, err := c.Put([]byte(blob))
		return fmt.Sprint("put: ", api.Code(err))
	case 2, 3:
		return fmt.Sprint("drop: ", api.Code(c.Drop(g.id(blob))))
	case 4:
		results, _ := c.Table()
		for k := range results {
			results[k].Code = choose(2)
		}
		return fmt.Sprint("swap: ", api.Code(c.Swap(results[:choose(len(results)+1)])))
	case 5, 6:
		return s.layBundle(choose)
	case 7:
		name := []string{"f.x", "f.y", blobName("a", g.id(blob)), "c.a.table"}[choose(4)]
		size, _ := d.Size(name)
		return fmt.Sprint("write ", name, ": ", d.WriteAt(name, choose(size+1), []byte{byte(choose(256))}), d.Sync(name))
	case 8:
		name := []string{"f.x", "c.a.import", "c.a.table", "+c.a.import"}[choose(4)]
		return fmt.Sprint("remove ", name, ": ", d.Remove(name), d.SyncNames())
	case 9:
		return fmt.Sprint("abandon: ", api.Code(intake.Abandon(c)))
	case 10, 11:
		return fmt.Sprint("resume: ", api.Code(intake.Resume(c)))
	case 12:
		d.Plan(api.Plan{Off: choose(50), From: choose(40), To: choose(40)})
		return "plan"
	case 13:
		name := []string{"+c.a.import", "+c.a.table", "c.a.import", "+" + blobName("a", g.id(blob))}[choose(4)]
		return fmt.Sprint("make ", name, ": ", d.Create(name))
	}
	picks := []int{choose(9)}
	for range 140 {
		picks = append(picks, choose(90))
	}
	s.store = s.store.crashed(t, picks...)
	return "crash"
}

// layBundle lays a bundle by hand, safe or not.
func (s *script) layBundle(choose choice) string {
	d, name, data := s.store.disk, []string{"f.x", "f.y"}[choose(2)], s.bundles[choose(len(s.bundles))]
	d.Remove(name)
	d.Create(name)
	d.Append(name, []byte(data))
	if choose(4) > 0 {
		d.Sync(name)
		d.SyncNames()
	}
	return "lay " + name
}

// drawn is a restore with drawn arguments.
func (s *script) drawn(choose choice) ask {
	a := ask{file: []string{"f.x", "f.x", "f.x", "f.y", "f.y", "f.y", "f.z", "F", "c.a.import", "+c.a.import", "c.a.table"}[choose(11)]}
	g := s.goods[choose(len(s.goods))]
	for range choose(4) {
		if len(g.results) > 0 {
			a.actions = append(a.actions, g.results[choose(len(g.results))].Action)
		}
	}
	if choose(12) == 0 {
		a.actions = append(a.actions, act(byte(choose(256))))
	}
	a.policy = []int{1, 2, 3, 1, 2, 3, 1, 2, 3, 1, 2, 3, 0, 4}[choose(14)]
	return a
}

// step changes something, or holds a restore against the words.
func (s *script) step(t testing.TB, choose choice) string {
	t.Helper()
	if choose(2) == 0 {
		return s.change(t, choose)
	}
	a := s.drawn(choose)
	got := s.store.wantAsTheWordsSay(t, "drawn", a)
	s.met[got.code]++
	if s.store.disk.Off() && choose(3) > 0 {
		s.store = s.store.crashed(t, choose(9), choose(50), choose(50), choose(50))
	}
	return fmt.Sprint("restore ", a.file, ": ", got.code)
}

// Changes of the cache and by hand, plans, crashes and restores in any order.
func TestScripts(t *testing.T) {
	r := noise()
	met := map[api.Errno]int{}
	for i := range 140 {
		s := newScript(t)
		s.met = met
		var steps []string
		for range 50 {
			steps = append(steps, s.step(t, r.IntN))
			if t.Failed() {
				t.Fatalf("script %d: %q", i, steps)
			}
		}
	}
	for _, code := range []api.Errno{api.OK, api.ErrArg, api.ErrName, api.ErrOff, api.ErrOpen, api.ErrNone, api.ErrBundle, api.ErrSum, api.ErrNoAction, api.ErrNoTree, api.ErrDeep,
		api.ErrMissing, api.ErrBlock, api.ErrDigest, api.ErrCache, api.ErrCollision, api.ErrConflict, api.ErrBlobs, api.ErrFull} {
		if met[code] < 3 {
			t.Errorf("%d is met %d times", code, met[code])
		}
	}
}

func FuzzAsTheWordsSay(f *testing.F) {
	f.Add([]byte{})
	f.Add([]byte{1, 0, 0, 2, 0, 1, 1, 0, 1, 0, 14, 1, 2, 3, 4, 5})
	f.Fuzz(func(t *testing.T, draws []byte) {
		s := newScript(t)
		choose := func(below int) int {
			if len(draws) == 0 {
				return 0
			}
			first := int(draws[0])
			draws = draws[1:]
			return first % below
		}
		for n := 0; len(draws) > 0 && n < 100; n++ {
			s.step(t, choose)
		}
	})
}
