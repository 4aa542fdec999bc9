package restore_test

import (
	"fmt"
	"math/bits"
	"slices"
	"testing"

	"freight/api"
	"freight/cache"
)

const wrongWidth = 2

// lot is a cache, its disk, and what is asked of it.
type lot struct {
	held     []string
	ours     []api.Result
	badTable bool
	isOpen   bool
	bundle   string
	off      bool
	none     *cache.Cache // in the place of the cache, if isNone
	isNone   bool
	plan     api.Plan
	ask
}

// wrongGoods are the stock, and three results that have no whole need.
func wrongGoods() goods {
	g := stock(wrongWidth)
	deep := chain(wrongWidth, 7, crate)
	lack := filesTree(wrongWidth, crate, "not there")
	g.blobs = append(append(g.blobs, lack), deep...)
	g.results = append(g.results, res(21, g.id(pallet), 0), res(22, g.id(deep[6]), 0), res(23, g.id(lack), 0))
	return g
}

// newLot is refused by nothing: the cache has one of the blobs, and a result that
// is unlike.
func newLot() *lot {
	g := wrongGoods()
	changed := g.results[1]
	changed.Code = 1
	return &lot{held: []string{crate}, ours: []api.Result{changed}, bundle: g.bundle(16), ask: ask{"f.x", acts(12, 11), api.Take}}
}

func (l *lot) made(t testing.TB) *store {
	t.Helper()
	files := []api.FileBytes{of("f.x", l.bundle)}
	if l.isOpen {
		files = append(files, of("c.a.import", "open"))
	}
	s := stored(t, wrongWidth, l.held, l.ours, files...)
	if l.badTable {
		s.disk.Truncate("c.a.table", 0)
		s.disk.Sync("c.a.table")
	}
	s.disk.Plan(l.plan)
	if l.off {
		darken(t, s.disk)
	}
	if l.isNone {
		return &store{cache: l.none}
	}
	return s
}

// wrong is one thing that a restore refuses, with the id that it is said of.
type wrong struct {
	said
	spoil func(l *lot)
}

func refused(code api.Errno, spoil func(l *lot)) wrong { return wrong{said{code: code}, spoil} }

// wrongs are all that a restore refuses up to its journal, in the order of its list;
// the kinds of those that have several stand in it by turns.
func wrongs(turn int) []wrong {
	g := wrongGoods()
	data := g.bundle(16)
	policies := []int{0, 4, -1, 1 << 40}
	offs := []func(l *lot){
		func(l *lot) { l.off = true },
		func(l *lot) { l.isNone = true },
		func(l *lot) { l.isNone, l.none = true, &cache.Cache{} },
		func(l *lot) { l.isNone, l.off = true, true },
	}
	files := []wrong{
		refused(api.ErrName, func(l *lot) { l.file = "F" }),
		refused(api.ErrNone, func(l *lot) { l.file = "f.z" }),
		refused(api.ErrBundle, func(l *lot) { l.bundle = stock(wrongWidth + 1).bundle(16) }),
		refused(api.ErrSum, func(l *lot) { l.bundle = turned(l.bundle, frame("", l.bundle)[2].At) }),
	}
	lacking := [][]api.ID{acts(1), acts(99, 1), acts(1, 200, 1), acts(255, 2, 1)}
	under := []string{g.blobs[4], pallet, g.blobs[3], pallet} // the outer tree, a plain blob, the inner tree
	at := ownByte(data, wrongWidth, g.id(under[turn]))
	spoil := func(l *lot) {
		if len(l.bundle) == len(data) { // else it is another bundle by now
			l.bundle = turned(l.bundle, at)
		}
	}
	also := func(action byte) func(l *lot) { return func(l *lot) { l.actions = append(l.actions, act(action)) } }
	return append([]wrong{
		refused(api.ErrArg, func(l *lot) { l.policy = policies[turn] }),
		refused(api.ErrOff, offs[turn]),
		refused(api.ErrOpen, func(l *lot) { l.isOpen = true }),
		files[turn],
		{said{api.ErrNoAction, act(1)}, func(l *lot) { l.actions = slices.Concat(lacking[turn], l.actions) }},
		{said{api.ErrBlock, g.id(under[turn])}, spoil},
		{said{api.ErrNoTree, g.id(pallet)}, also(21)},
		{said{api.ErrDeep, g.id(filesTree(wrongWidth, crate))}, also(22)},
		{said{api.ErrMissing, g.id("not there")}, also(23)},
	}, ofTheCache(g)...)
}

// ofTheCache are what Part refuses, up to the table's Put, in their order.
func ofTheCache(g goods) []wrong {
	need := g.needOf(g.results[:2]...)
	others := strangers(wrongWidth, 130, g.blobs...)
	clashing := []string{clash(wrongWidth, pallet), clash(wrongWidth, g.blobs[3])}
	fresh := slices.DeleteFunc(slices.Clone(need), func(id api.ID) bool { return id == g.id(crate) })
	return []wrong{
		refused(api.ErrCache, func(l *lot) { l.badTable = true }),
		{said{api.ErrCollision, rising(g.id(pallet), g.id(g.blobs[3]))[0]}, func(l *lot) { l.held = append(l.held, clashing...) }},
		{said{api.ErrConflict, act(12)}, func(l *lot) {
			if l.policy == api.Take {
				l.policy = api.Fail
			}
		}},
		refused(api.ErrActions, func(l *lot) { l.ours = append(l.ours, resultsFrom(100, 31, api.ID{})...) }),
		refused(api.ErrBlobs, func(l *lot) { l.held = append(l.held, others[:128-len(l.held)]...) }),
		refused(api.ErrFull, func(l *lot) { l.plan = api.Plan{From: 1, To: 1} }),
		{said{api.ErrFull, fresh[1]}, func(l *lot) {
			if l.plan.From == 0 {
				l.plan.From = 11
			}
			l.plan.To = 11
		}},
	}
}

// first is the first wrong of a set, and the lot that has all of them.
func first(list []wrong, set int) (*lot, said, string) {
	l, first, what := newLot(), said{}, "wrong:"
	for _, w := range some(list, set) {
		w.spoil(l)
		what += fmt.Sprint(" ", w.code)
		if first.code == api.OK {
			first = w.said
		}
	}
	return l, first, what
}

// wantFirst asks for the first wrong of a set; up to the need's nothing has
// changed, no stroke is made.
func wantFirst(t *testing.T, list []wrong, set int) {
	t.Helper()
	l, first, what := first(list, set)
	s := l.made(t)
	before := s.disk.Twin()
	if bits.TrailingZeros(uint(set)) < 9 {
		s.wantRefused(t, what, l.ask, first.code, first.id)
		return
	}
	s.want(t, what, l.ask, first.code, first.id)
	if first.code != api.OK && !s.cache.Pending() && (!sameFiles(s.disk.Files(), before.Files()) || !sameFiles(s.disk.Safe(), before.Safe())) {
		t.Errorf("%s: %s, want %s", what, show(s.disk.Files()), show(before.Files()))
	}
}

// One, two and three of them at once, and drawn sets of more.
func TestP17_2_TheFirstThatIsWrong(t *testing.T) {
	r := noise()
	for turn := range 4 {
		list := wrongs(turn)
		for set := range 1 << len(list) {
			if bits.OnesCount(uint(set)) <= 3 || r.IntN(300) == 0 {
				wantFirst(t, list, set)
			}
			if t.Failed() {
				t.FailNow()
			}
		}
	}
}
