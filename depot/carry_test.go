package depot_test

import (
	"fmt"
	"maps"
	"slices"
	"testing"

	"freight/api"
	"freight/bundle"
	"freight/depot"
)

// second is what the cache that an export comes into holds.
func seconds(g goods) map[string]goods {
	changed := slices.Clone(g.results)
	for k := range changed {
		changed[k].Code = 77
	}
	return map[string]goods{
		"nothing":      {width: g.width},
		"the same":     g,
		"a part":       g.part(g.results[1]),
		"others":       {g.width, append(g.part(g.results[2]).blobs, "own"), []api.Result{res(1, g.results[2].Root, 5)}},
		"conflicts":    {g.width, g.blobs, changed},
		"one conflict": {g.width, g.part(g.results[2]).blobs, changed[2:3]},
	}
}

// An export of each set of actions is taken in by other caches under each policy.
func TestP0_2_ThereAndBack(t *testing.T) {
	codes := map[api.Errno]int{}
	for _, width := range []int{1, 8, 32} {
		g := stock(width)
		for what, other := range seconds(g) {
			for chosen := range 1 << len(g.results) {
				results := slices.DeleteFunc(slices.Clone(g.results), func(r api.Result) bool { return chosen>>(r.Action[0]-11)&1 == 0 })
				for _, policy := range policies() {
					l := newLedger(width)
					l.stow("a", g)
					l.stow("b", other)
					d := l.load(t, api.MaxRoom)
					wantDone(t, d, export("a", "x", 64, actionsOf(results...)...))
					got := d.Do(taking("b", "x", policy))
					codes[got.Code]++
					where := fmt.Sprint(what, ", width ", width, ", chosen ", chosen, ", policy ", policy)
					wantCarried(t, where, d, l, results, policy, got)
				}
			}
		}
	}
	if codes[api.OK] < 100 || codes[api.ErrConflict] < 10 || len(codes) != 2 {
		t.Errorf("%v", codes)
	}
}

// wantCarried is P0.2, of an import of these results of the cache a into b.
func wantCarried(t testing.TB, what string, d *depot.Depot, l ledger, results []api.Result, policy int, got api.Answer) {
	t.Helper()
	first, second := l.cache("a"), l.cache("b")
	var conflicts []api.ID
	for _, r := range results {
		if ours, both := second.results[r.Action]; both && ours != r {
			conflicts = append(conflicts, r.Action)
		}
	}
	if policy == api.Fail && len(conflicts) > 0 {
		if !sameAnswer(got, said{api.ErrConflict, rising(conflicts...)[0]}.answer()) || !heldBy(t, what, d, "b", l.width).isLike(second) {
			t.Fatalf("%s: %s", what, brief(got))
		}
		return
	}
	if got.Code != api.OK {
		t.Fatalf("%s: %s", what, brief(got))
	}
	need, _ := needByWords(getOf(first.blobs), results)
	for _, id := range need {
		wantAnswer(t, d, get("b", id), api.Answer{Data: []byte(first.blobs[id])})
		wantAnswer(t, d, get("a", id), api.Answer{Data: []byte(first.blobs[id])})
	}
	now := heldBy(t, what, d, "b", l.width)
	for _, r := range results {
		want := r
		if ours, both := second.results[r.Action]; both && policy == api.Keep {
			want = ours
		}
		if now.results[r.Action] != want {
			t.Fatalf("%s: action %x has %v, want %v", what, r.Action[:1], now.results[r.Action], want)
		}
	}
	if !now.isWhole() || !heldBy(t, what, d, "a", l.width).isLike(first) {
		t.Fatalf("%s: %v", what, now)
	}
}

// Refused for what P0.2 lists, and for nothing else: clashes, too many actions, too many
// blobs, room; nothing has changed then.
func TestP0_2_Refused(t *testing.T) {
	g := stock(1)
	tree := filesTree(1, "own")
	for what, x := range map[string]struct {
		other goods
		want  said
	}{
		"a clash":          {goods{width: 1, blobs: []string{clash(1, crate)}}, said{api.ErrCollision, idOf(1, crate)}},
		"clashes":          {goods{width: 1, blobs: []string{clash(1, crate), clash(1, pallet), clash(1, "")}}, said{api.ErrCollision, rising(idsOf(1, crate, pallet, "")...)[0]}},
		"too many actions": {goods{1, []string{"own", tree}, resultsFrom(100, 31, idOf(1, tree))}, said{code: api.ErrActions}},
		"too many blobs":   {goods{width: 1, blobs: strangers(1, 125, g.blobs...)}, said{code: api.ErrBlobs}},
	} {
		l := newLedger(1)
		l.stow("a", g)
		l.stow("b", x.other)
		d := l.load(t, api.MaxRoom)
		wantDone(t, d, export("a", "x", 64, acts(11, 12)...))
		for _, policy := range policies() {
			wantRefused(t, d, taking("b", "x", policy), x.want.code, x.want.id)
			wantRefused(t, d, restoring("b", "x", policy, acts(11, 12)...), x.want.code, x.want.id)
		}
		if t.Failed() {
			t.Fatal(what)
		}
	}
	d := load(t, 1, 3000, append(g.files("a"), of("f.x", g.bundle(64)), of("f.q", times(1300, "q")))...)
	before := filed(d.Disk().Files())
	wantCode(t, d, taking("b", "x", api.Keep), api.ErrFull, api.ID{})
	if !maps.Equal(filed(d.Disk().Files()), before) {
		t.Errorf("no room for the journal: %s", show(d.Disk().Files()))
	}
}

// Carried over many depots, each with the file of the one ahead of it.
func TestP0_2_FromDepotToDepot(t *testing.T) {
	for _, width := range []int{1, 32} {
		g := stock(width)
		first := begin(t, width, api.MaxRoom)
		for _, s := range putAll("a", g) {
			wantOK(t, first, s)
		}
		wantDone(t, first, export("a", "x", 16, acts(14, 13, 12, 11)...))
		carried := wantOK(t, first, read("x")).Data
		for range 4 {
			next := begin(t, width, api.MaxRoom)
			wantDone(t, next, write("in", string(carried)))
			wantDone(t, next, taking("b", "in", api.Fail))
			wantHolds(t, next, "b", width, g.blobs, g.results)
			wantDone(t, next, export("b", "out", 16, acts(11, 12, 13, 14)...))
			again := wantOK(t, next, read("out")).Data
			if string(again) != string(carried) {
				t.Fatal("the same goods make another bundle")
			}
			carried = again
		}
	}
}

// Each set of actions: a good bundle, just these results, just their need.
func TestP0_3_JustTheNeed(t *testing.T) {
	for _, width := range []int{1, 8, 32} {
		g := stock(width)
		d := load(t, width, api.MaxRoom, goods{width, append(strangers(width, 9, g.blobs...), g.blobs...), g.results}.files("a")...)
		for chosen := range 1 << len(g.results) {
			results := slices.DeleteFunc(slices.Clone(g.results), func(r api.Result) bool { return chosen>>(r.Action[0]-11)&1 == 0 })
			for _, size := range []int{16, 100, 4096} {
				wantDone(t, d, export("a", "x", size, actionsOf(results...)...))
				wantGood(t, d, "x", g.part(results...))
			}
		}
	}
}

// wantGood asks for a good bundle of just these goods.
func wantGood(t testing.TB, d *depot.Depot, file string, g goods) {
	t.Helper()
	want := api.Answer{Results: g.results}
	at := 0
	for _, id := range g.ids() {
		n := len(g.byID()[id])
		want.Blobs = append(want.Blobs, api.Place{ID: id, At: at, N: n})
		at += n
	}
	wantAnswer(t, d, verify(file), want)
	wantAnswer(t, d, list(file), want)
	data, _ := shown(d.Disk(), "f."+file)
	face, err := bundle.Parse([]byte(data), g.width)
	if err != nil {
		t.Fatal(err)
	}
	for _, place := range face.Blobs {
		if blob, code := blobIn(data, face, place); code != api.OK || blob != g.byID()[place.ID] {
			t.Errorf("%x: %.20q", place.ID[:2], blob)
		}
	}
}

// Where the need is not whole: ErrNoTree, ErrDeep or ErrMissing and the least such id;
// no file, and no changed one.
func TestP0_3_NotWhole(t *testing.T) {
	g := stock(8)
	deep := chain(8, 7, crate)
	low := filesTree(8, "lacks 1", "lacks 2", "lacks 3")
	more := []api.Result{res(30, g.id(pallet), 0), res(31, g.id(deep[6]), 0), res(32, g.id(low), 0), res(33, g.id("no tree"), 0)}
	table := append(slices.Clone(g.results), more...)
	all := goods{8, slices.Concat(g.blobs, deep, []string{low, "no tree"}), table}
	noTree := rising(g.id(pallet), g.id("no tree"))[0]
	lacks := rising(idsOf(8, "lacks 1", "lacks 2", "lacks 3")...)[0]
	d := load(t, 8, api.MaxRoom, append(all.files("a"), of("f.x", "a former one"))...)
	for _, file := range []string{"x", "y"} {
		wantRefused(t, d, export("a", file, 64, acts(30)...), api.ErrNoTree, g.id(pallet))
		wantRefused(t, d, export("a", file, 64, acts(33, 30, 31, 32)...), api.ErrNoTree, noTree)
		wantRefused(t, d, export("a", file, 64, acts(31, 32, 11)...), api.ErrDeep, g.id(deep[0]))
		wantRefused(t, d, export("a", file, 64, acts(32, 12)...), api.ErrMissing, lacks)
		wantRefused(t, d, export("a", file, 64, acts(32, 99, 30)...), api.ErrNoAction, act(99))
	}
	for _, b := range g.blobs { // each blob that is dropped is missed by those that need it
		d := load(t, 8, api.MaxRoom, append(g.files("a"), of("f.x", "a former one"))...)
		wantDone(t, d, drop("a", g.id(b)))
		for _, r := range g.results {
			if slices.Contains(g.needOf(r), g.id(b)) {
				wantRefused(t, d, export("a", "x", 64, r.Action), api.ErrMissing, g.id(b))
				wantRefused(t, d, export("a", "y", 64, r.Action), api.ErrMissing, g.id(b))
				continue
			}
			wantDone(t, d, export("a", "z", 64, r.Action))
			wantGood(t, d, "z", g.part(r))
		}
	}
}

// Refused for room: no file, and no changed one, and nothing beside.
func TestP0_3_NoRoom(t *testing.T) {
	g := stock(8)
	for at := 1; at <= 2; at++ {
		for _, file := range []string{"x", "y"} {
			d := load(t, 8, api.MaxRoom, append(g.files("a"), of("f.x", "a former one"))...)
			before := d.Disk().Files()
			wantDone(t, d, planning(api.Plan{From: at, To: at}))
			wantCode(t, d, export("a", file, 64, act(11)), api.ErrFull, api.ID{})
			if !sameFiles(d.Disk().Files(), before) || !sameFiles(d.Disk().Safe(), before) {
				t.Errorf("%s", show(d.Disk().Files()))
			}
		}
	}
}

// A put, import or restore that would need two unlike rows of one id, in each cache of a
// narrow width: ErrCollision of the least one, and nothing has changed.
func TestP0_10_Clashes(t *testing.T) {
	for _, width := range []int{1, 2} {
		g := stock(width)
		for set := 1; set < 1<<3; set++ {
			l := newLedger(width)
			var ids []api.ID
			for k, b := range []string{crate, pallet, ""} {
				if set>>k&1 == 1 {
					l.stow("b", goods{width: width, blobs: []string{clash(width, b)}})
					ids = append(ids, g.id(b))
				}
			}
			l.files["x"] = g.bundle(16)
			d := l.load(t, api.MaxRoom)
			for k, b := range []string{crate, pallet, ""} {
				if set>>k&1 == 1 {
					wantRefused(t, d, put("b", b), api.ErrCollision, g.id(b))
				}
			}
			for _, policy := range policies() {
				wantRefused(t, d, taking("b", "x", policy), api.ErrCollision, rising(ids...)[0])
				for _, r := range g.results {
					need := g.needOf(r)
					clashing := slices.DeleteFunc(rising(ids...), func(id api.ID) bool { return !slices.Contains(need, id) })
					if len(clashing) > 0 {
						wantRefused(t, d, restoring("b", "x", policy, r.Action), api.ErrCollision, clashing[0])
						continue
					}
					w := twin(t, d, width)
					wantDone(t, w, restoring("b", "x", policy, r.Action))
					after := l.clone()
					after.do(restoring("b", "x", policy, r.Action))
					wantLedger(t, "no clash", w, after)
				}
			}
			wantLedger(t, "clashes", d, l)
		}
	}
}

// What stands ahead of a clash in its list is said; what stands behind it is not.
func TestP0_10_Order(t *testing.T) {
	g := stock(1)
	l := newLedger(1)
	l.stow("b", goods{1, []string{clash(1, crate), emptyTree}, []api.Result{res(11, idOf(1, emptyTree), 0)}})
	l.files["x"] = g.bundle(16)
	l.files["y"] = spoilt(g.bundle(16), 1, 0)
	d := l.load(t, api.MaxRoom)
	wantRefused(t, d, taking("b", "x", api.Fail), api.ErrCollision, g.id(crate)) // ahead of ErrConflict
	wantRefused(t, d, taking("b", "y", api.Fail), api.ErrBlock, api.ID{})
	wantRefused(t, d, taking("b", "x", 9), api.ErrArg, api.ID{})
	full := load(t, 1, api.MaxRoom, append(goods{width: 1, blobs: append(strangers(1, 127, crate), clash(1, crate))}.files("b"), of("f.x", g.bundle(16)))...)
	wantRefused(t, full, put("b", crate), api.ErrCollision, g.id(crate)) // ahead of ErrBlobs
}

// Each import that is OK: at most 5 strokes for each blob that it lays, and 12 beside
// them.
func TestP0_11_Strokes(t *testing.T) {
	for _, width := range []int{1, 8, 32} {
		g := stock(width)
		for what, other := range seconds(g) {
			for _, policy := range policies() {
				l := newLedger(width)
				l.stow("b", other)
				l.files["x"] = g.bundle(64)
				d := l.load(t, api.MaxRoom)
				if got := d.Do(taking("b", "x", policy)); got.Code == api.ErrConflict {
					continue
				} else if got.Code != api.OK {
					t.Fatalf("%s: %s", what, brief(got))
				}
				laid := len(heldBy(t, what, d, "b", width).blobs) - len(l.cache("b").blobs)
				table := 0
				if now := heldBy(t, what, d, "b", width); !maps.Equal(now.results, l.cache("b").results) {
					table = 5
				}
				if strokes := d.Disk().Strokes(); strokes > 5*laid+12 || strokes != 5*laid+7+table {
					t.Errorf("%s, policy %d: %d strokes for %d blobs", what, policy, strokes, laid)
				}
			}
		}
	}
}

// Of many blobs, too.
func TestP0_11_ManyBlobs(t *testing.T) {
	for n := 1; n <= 31; n += 5 {
		blobs := strangers(32, n)
		root := filesTree(32, blobs...)
		g := goods{32, append(blobs, root), []api.Result{res(1, idOf(32, root), 0)}}
		d := load(t, 32, api.MaxRoom, of("f.x", g.bundle(64)))
		wantDone(t, d, taking("a", "x", api.Keep))
		if d.Disk().Strokes() != 5*(n+1)+12 {
			t.Errorf("%d blobs: %d strokes", n+1, d.Disk().Strokes())
		}
	}
}
