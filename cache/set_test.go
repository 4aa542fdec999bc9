package cache_test

import (
	"math"
	"slices"
	"testing"

	"freight/api"
)

// stock are the blobs of a small tree, and its root.
func stock() ([]api.FileBytes, api.ID) {
	leaf, empty := "pallet", treeOf()
	root := treeOf(aFile(id1(leaf)), aFolder(id1(empty)), aRun(id1("crate")))
	return []api.FileBytes{blob(leaf), blob(empty), blob("crate"), blob(root)}, id1(root)
}

// stocked is that, and a table.
func stocked(results ...api.Result) ([]api.FileBytes, api.ID) {
	files, root := stock()
	return append(files, of("c.a.table", tableOf(results...))), root
}

// In the place of the result of its action, or beside the others, in order.
func TestP10_8_Set(t *testing.T) {
	files, root := stock()
	d, c := made(t, files...)
	steps := []struct {
		set  api.Result
		want []api.Result
	}{
		{res(5, root, 0), []api.Result{res(5, root, 0)}},
		{res(9, root, 255), []api.Result{res(5, root, 0), res(9, root, 255)}},
		{res(1, root, 7), []api.Result{res(1, root, 7), res(5, root, 0), res(9, root, 255)}},
		{res(5, root, 1), []api.Result{res(1, root, 7), res(5, root, 1), res(9, root, 255)}},
		{res(9, id1(treeOf()), 255), []api.Result{res(1, root, 7), res(5, root, 1), res(9, id1(treeOf()), 255)}},
		{res(0, id1(treeOf()), 0), []api.Result{res(0, id1(treeOf()), 0), res(1, root, 7), res(5, root, 1), res(9, id1(treeOf()), 255)}},
	}
	for _, step := range steps {
		wantStrokes(t, "Set", d, 5, func() { wantSet(t, c, step.set, api.ID{}, api.OK) })
		wantTable(t, c, step.want...)
		if want := mustLoad(t, 10000, append(files, of("c.a.table", tableOf(step.want...)))...); !same(d.Files(), want.Files()) || !same(d.Safe(), want.Files()) {
			t.Errorf("Set(%s): %s", told(step.set), all(d))
		}
	}
}

// Just this result: no stroke, whatever others there are.
func TestP10_8_JustThisResult(t *testing.T) {
	files, root := stock()
	for _, results := range [][]api.Result{{res(5, root, 3)}, {res(1, api.ID{}, 0), res(5, root, 3), res(7, root, 3)}, slices.Concat([]api.Result{res(0, root, 0)}, actions(32, root)[1:])} {
		d, c := made(t, append(files, of("c.a.table", tableOf(results...)))...)
		for _, r := range results {
			if r.Root == root {
				wantNothing(t, "just this result", d, func() { wantSet(t, c, r, api.ID{}, api.OK) })
			}
		}
		other := results[len(results)-1]
		other.Code++
		wantStrokes(t, "another code", d, 5, func() { wantSet(t, c, other, api.ID{}, api.OK) })
	}
}

func TestP10_8_Codes(t *testing.T) {
	files, root := stock()
	d, c := made(t, files...)
	wantNothing(t, "no code", d, func() {
		for _, code := range []int{-1, 256, 257, 512, math.MaxInt, math.MinInt, 1 << 32} {
			wantSet(t, c, res(1, root, code), api.ID{}, api.ErrArg)
		}
	})
	for code := range 256 {
		wantSet(t, c, res(1, root, code), api.ID{}, api.OK)
		wantTable(t, c, res(1, root, code))
	}
}

// The id of what Need says; an id whose file is damage lacks.
func TestP10_8_Need(t *testing.T) {
	files, root := stock()
	d, c := made(t, files...)
	noTree := func(what string, r, of api.ID, want api.Errno) {
		t.Helper()
		wantNothing(t, what, d, func() { wantSet(t, c, res(1, r, 0), of, want) })
	}
	noTree("a leaf", id1("pallet"), id1("pallet"), api.ErrNoTree)
	noTree("none", id1("no such one"), id1("no such one"), api.ErrMissing)
	noTree("behind the width", api.ID{root[0], 1}, api.ID{root[0], 1}, api.ErrMissing)
	around := circle()
	wantPut(t, c, around)
	noTree("a circle", id1(around), id1(around), api.ErrDeep)
	hand(t, d, nameOf(id1("pallet")), "damage")
	noTree("damage", root, id1("pallet"), api.ErrMissing)
	hand(t, d, nameOf(id1("crate")), times(5000, "damage"))
	least := id1("pallet")
	if other := id1("crate"); other[0] < least[0] {
		least = other
	}
	noTree("the least one", root, least, api.ErrMissing)
	hand(t, d, nameOf(root), "damage")
	noTree("the root", root, root, api.ErrMissing)
	wantPut(t, c, treeOf())
	wantSet(t, c, res(1, id1(treeOf()), 0), api.ID{}, api.OK)
}

// MaxDepth trees, each a folder of the one ahead, and one more.
func TestP10_8_Depth(t *testing.T) {
	c := mustOpen(t, mustLoad(t, 100000), "a", 32)
	below := treeOf()
	wantPut(t, c, below)
	for depth := 2; depth <= 8; depth++ {
		deepest := idOf(32, treeOf())
		if depth == 8 {
			deepest = idOf(32, treeOf(aFolder(deepest)))
		}
		below = treeOf(aFolder(idOf(32, below)))
		wantPut(t, c, below)
		switch {
		case depth <= 6:
			wantSet(t, c, res(byte(depth), idOf(32, below), 0), api.ID{}, api.OK)
		default:
			wantSet(t, c, res(byte(depth), idOf(32, below), 0), deepest, api.ErrDeep)
		}
	}
}

// The results that are there are not asked for what they need.
func TestP10_8_NeedOfROnly(t *testing.T) {
	files, root := stocked(res(1, id1("no such one"), 0), res(3, api.ID{31: 9}, 0))
	_, c := made(t, files...)
	wantSet(t, c, res(2, root, 0), api.ID{}, api.OK)
	wantSet(t, c, res(3, root, 0), api.ID{}, api.OK)
	wantTable(t, c, res(1, id1("no such one"), 0), res(2, root, 0), res(3, root, 0))
}

func TestP10_8_MaxActions(t *testing.T) {
	files, root := stock()
	for _, n := range []int{30, 31} {
		_, c := made(t, append(files, of("c.a.table", tableOf(actions(n, api.ID{9})...)))...)
		wantSet(t, c, res(7, root, 0), api.ID{}, api.OK)
	}
	d, c := made(t, append(files, of("c.a.table", tableOf(actions(32, api.ID{9})...)))...)
	wantNothing(t, "too many", d, func() {
		for _, action := range []byte{1, 7, 61, 63, 255} {
			wantSet(t, c, res(action, root, 0), api.ID{}, api.ErrActions)
		}
	})
	for _, action := range []byte{0, 8, 62} {
		wantSet(t, c, res(action, root, 77), api.ID{}, api.OK)
	}
	want := actions(32, api.ID{9})
	want[0], want[4], want[31] = res(0, root, 77), res(8, root, 77), res(62, root, 77)
	wantTable(t, c, want...)
}

// Each refusal ahead of those behind it: all hold at once, and one after
// another is mended.
func TestP10_8_OrderOfErrors(t *testing.T) {
	around, empty := circle(), treeOf()
	bad := treeOf(aFolder(id1("pallet")), aFolder(id1(around)), aFile(api.ID{31: 7}))
	deep := treeOf(aFolder(id1(around)), aFile(api.ID{31: 7}))
	lacks := treeOf(aFile(api.ID{31: 7}))
	for _, pair := range [][2]string{{bad, "pallet"}, {bad, around}, {bad, empty}, {deep, around}, {deep, "pallet"}, {lacks, empty}, {around, empty}} {
		if id1(pair[0]) == id1(pair[1]) {
			t.Fatal("a clash that is not meant")
		}
	}
	full := tableOf(actions(32, id1(empty))...)
	files := []api.FileBytes{blob("pallet"), blob(around), blob(bad), blob(deep), blob(lacks), blob(empty)}
	d, c := off(t, append(files, of("c.a.import", ""), of("c.a.table", "\x09"))...)
	wantSet(t, c, res(1, id1(bad), 256), api.ID{}, api.ErrArg)
	wantSet(t, c, res(1, id1(bad), 0), api.ID{}, api.ErrOff)
	d.Crash()
	wantSet(t, c, res(1, id1(bad), -1), api.ID{}, api.ErrArg)
	wantSet(t, c, res(1, id1(bad), 0), api.ID{}, api.ErrOpen)
	away(t, d, "c.a.import")
	wantSet(t, c, res(1, id1(bad), 0), api.ID{}, api.ErrCache)
	hand(t, d, "c.a.table", full)
	d.Plan(api.Plan{From: 1, To: 100})
	wantSet(t, c, res(1, id1(bad), 0), id1("pallet"), api.ErrNoTree)
	wantSet(t, c, res(1, id1(deep), 0), id1(around), api.ErrDeep)
	wantSet(t, c, res(1, id1(lacks), 0), api.ID{31: 7}, api.ErrMissing)
	wantSet(t, c, res(1, id1(empty), 0), api.ID{}, api.ErrActions)
	wantSet(t, c, res(2, id1(empty), 1), api.ID{}, api.OK) // just this result: no room is needed
	wantSet(t, c, res(2, id1(empty), 2), api.ID{}, api.ErrFull)
}

// What is refused ahead of the need is refused of a result that is there, too.
func TestP10_8_RefusedThoughItIsThere(t *testing.T) {
	files, root := stock()
	files = append(files, of("c.a.table", tableOf(res(1, root, 0))))
	d, c := made(t, append(files, of("c.a.import", "x"))...)
	wantSet(t, c, res(1, root, 0), api.ID{}, api.ErrOpen)
	away(t, d, "c.a.import")
	away(t, d, nameOf(id1("pallet")))
	wantSet(t, c, res(1, root, 0), id1("pallet"), api.ErrMissing)
}

func TestP10_8_NoTable(t *testing.T) {
	files, root := stock()
	for _, data := range noTables() {
		d, c := made(t, append(files, of("c.a.table", data))...)
		wantNothing(t, "no table", d, func() { wantSet(t, c, res(1, root, 0), api.ID{}, api.ErrCache) })
	}
}

func TestP10_8_NoRoom(t *testing.T) {
	files, root := stocked(res(1, api.ID{}, 0))
	for _, what := range []api.Errno{api.ErrFull, api.ErrFiles} {
		d, c := full(t, what, files...)
		before := d.Files()
		for _, action := range []byte{1, 2} {
			wantSet(t, c, res(action, root, 0), api.ID{}, what)
			if !same(d.Files(), before) || !same(d.Safe(), before) {
				t.Errorf("refused, but %s", all(d))
			}
		}
	}
}
