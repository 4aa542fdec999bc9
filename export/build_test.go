package export_test

import (
	"bytes"
	"fmt"
	"math"
	"slices"
	"testing"

	"freight/api"
	"freight/bundle"
	"freight/cache"
	"freight/export"
)

func wrongSizes() []int {
	return []int{api.MinBlock - 1, api.MaxBlock + 1, 0, 1, -1, -64, 2 * api.MaxBlock, 65536 + 64, math.MaxInt, math.MinInt}
}

func TestP14_1_Sizes(t *testing.T) {
	s := stored(t, stock(32))
	for _, size := range wrongSizes() {
		s.wantRefused(t, fmt.Sprint("size ", size), acts(1), size, api.ErrArg, api.ID{})
		s.wantRefused(t, fmt.Sprint("none, size ", size), nil, size, api.ErrArg, api.ID{})
	}
	for _, size := range []int{api.MinBlock, api.MinBlock + 1, 64, 1000, api.MaxBlock - 1, api.MaxBlock} {
		face, err := bundle.Verify(s.mustBuild(t, acts(1, 3), size), 32)
		if err != nil || face.Size != size {
			t.Errorf("size %d: %d, %v", size, face.Size, err)
		}
		s.wantBuilt(t, fmt.Sprint("size ", size), acts(1, 3), size)
	}
}

// A nil Cache and a zero one have no name; ErrArg stands ahead of ErrOff.
func TestP14_1_NoCache(t *testing.T) {
	for _, c := range []*cache.Cache{nil, {}, new(cache.Cache)} {
		for _, actions := range [][]api.ID{nil, {}, acts(1), acts(9, 2, 9)} {
			s := &store{cache: c}
			for _, size := range wrongSizes() {
				s.wantRefused(t, "no cache, no size", actions, size, api.ErrArg, api.ID{})
			}
			for _, size := range []int{api.MinBlock, 64, api.MaxBlock} {
				s.wantRefused(t, "no cache", actions, size, api.ErrOff, api.ID{})
			}
		}
	}
}

// ErrOff stands ahead of all that looks at the disk.
func TestP14_1_Off(t *testing.T) {
	s := stored(t, stock(32))
	want := s.mustBuild(t, acts(1), 64)
	s.darken(t)
	for _, actions := range [][]api.ID{nil, acts(1), acts(9)} {
		s.wantRefused(t, "off", actions, 64, api.ErrOff, api.ID{})
		s.wantRefused(t, "off, no size", actions, 15, api.ErrArg, api.ID{})
	}
	s.disk.Crash()
	if !bytes.Equal(s.mustBuild(t, acts(1), 64), want) {
		t.Error("behind the crash: other bytes")
	}
	s.hand(t, "c.a.table", "no table")
	s.darken(t)
	s.wantRefused(t, "off, no table", acts(1), 64, api.ErrOff, api.ID{})
	s.disk.Crash()
	s.wantRefused(t, "no table", acts(1), 64, api.ErrCache, api.ID{})
}

// A table's file that holds no table, whatever is asked for.
func TestP14_1_NoTable(t *testing.T) {
	good := stock(32)
	form := tableOf(good.results...)
	for _, bad := range []string{"", "\x09", form[:len(form)-1], form + "\x00", "\x80\x00", "\x21" + times(33*65, "\x00"), form[:1] + form[66:131] + form[1:66] + form[131:]} {
		s := stored(t, good)
		s.hand(t, "c.a.table", bad)
		for _, actions := range [][]api.ID{nil, acts(1), acts(9)} {
			s.wantRefused(t, fmt.Sprintf("%.10q", bad), actions, 64, api.ErrCache, api.ID{})
			s.wantRefused(t, fmt.Sprintf("%.10q", bad), actions, 15, api.ErrArg, api.ID{})
		}
	}
}

func TestP14_1_NoAction(t *testing.T) {
	s := stored(t, stock(32))
	near := act(2)
	near[31] = 1
	last := api.ID(bytes.Repeat([]byte{255}, 32))
	for _, x := range []struct {
		what    string
		actions []api.ID
		least   api.ID
	}{
		{"one", acts(9), act(9)},
		{"one and good ones", acts(2, 9, 1), act(9)},
		{"several", acts(9, 5, 7), act(5)},
		{"several, the least last", acts(1, 9, 7, 2, 5), act(5)},
		{"several, often", acts(9, 9, 6, 9, 6, 1, 6), act(6)},
		{"least of all", []api.ID{act(1), {}, act(9)}, api.ID{}},
		{"greatest of all", []api.ID{last, act(4)}, last},
		{"one that is near", []api.ID{act(9), near, act(2)}, near},
		{"a root", []api.ID{s.mustRoot(t, 1), act(1)}, s.mustRoot(t, 1)},
	} {
		s.wantRefused(t, x.what, x.actions, 64, api.ErrNoAction, x.least)
	}
}

// mustRoot is the root that the table has of an action.
func (s *store) mustRoot(t testing.TB, action byte) api.ID {
	t.Helper()
	results, err := s.cache.Table()
	if err != nil {
		t.Fatal(err)
	}
	at := slices.IndexFunc(results, func(r api.Result) bool { return r.Action == act(action) })
	return results[at].Root
}

// No table's file is the empty table: it has no action, and no actions are OK.
func TestP14_1_NoTablesFile(t *testing.T) {
	s := opened(t, mustLoad(t, 1000), "a", 32)
	s.wantRefused(t, "an empty disk", acts(3, 2), 64, api.ErrNoAction, act(2))
	s.wantBuilt(t, "an empty disk, none", nil, 64)
	full := stored(t, stock(32))
	full.away(t, "c.a.table")
	full.wantRefused(t, "blobs alone", acts(1), 64, api.ErrNoAction, act(1))
	full.wantBuilt(t, "blobs alone, none", nil, 64)
	other := opened(t, full.disk, "b", 32)
	other.wantRefused(t, "another cache", acts(1), 64, api.ErrNoAction, act(1))
}

// What a table may hold at most.
func TestP14_1_AllActionsOfATable(t *testing.T) {
	g := stock(32)
	g.results = nil
	var all []api.ID
	for i := range api.MaxActions {
		g.results = append(g.results, res(byte(7*i), idOf(32, g.blobs[3]), i))
		all = append(all, act(byte(7*i)))
	}
	s := stored(t, g)
	slices.Reverse(all)
	s.wantBuilt(t, "all", all, 64)
	s.wantBuilt(t, "all, and all again", slices.Concat(all, all, all), 64)
	for _, action := range all {
		s.wantBuilt(t, "one", []api.ID{action}, 64)
	}
	s.wantRefused(t, "one more", append(all, act(8)), 64, api.ErrNoAction, act(8))
}

// Each action counts once, in whatever order they stand.
func TestP14_1_AnyOrder(t *testing.T) {
	s := stored(t, stock(32))
	for set := range 16 {
		var list []byte
		for k := range 4 {
			if set>>k&1 == 1 {
				list = append(list, byte(k+1))
			}
		}
		want := s.mustBuild(t, acts(list...), 64)
		s.wantBuilt(t, fmt.Sprint(list), acts(list...), 64)
		r := noise()
		for range 20 {
			more := slices.Clone(list)
			for len(list) > 0 && len(more) < 9 && r.IntN(4) > 0 {
				more = append(more, list[r.IntN(len(list))])
			}
			r.Shuffle(len(more), func(i, k int) { more[i], more[k] = more[k], more[i] })
			if !bytes.Equal(s.mustBuild(t, acts(more...), 64), want) {
				t.Errorf("%v: other bytes than of %v", more, list)
			}
		}
	}
}

// Very many actions, all of them two.
func TestP14_1_VeryManyDoubles(t *testing.T) {
	s := stored(t, stock(32))
	many := slices.Repeat(acts(3, 1), 200000)
	if !bytes.Equal(s.mustBuild(t, many, 64), s.mustBuild(t, acts(1, 3), 64)) {
		t.Error("other bytes")
	}
	s.wantRefused(t, "and one that lacks", append(many, act(9), act(8)), 64, api.ErrNoAction, act(8))
}

// The ids of all widths, and just that width in the bundle.
func TestP14_1_Widths(t *testing.T) {
	for width := 1; width <= api.MaxWidth; width++ {
		s := stored(t, stock(width))
		s.wantBuilt(t, fmt.Sprint("width ", width), acts(1, 2, 3, 4), 32)
		face, _ := held(t, s.mustBuild(t, acts(1), 32), width)
		if face.Width != width {
			t.Errorf("width %d: %d", width, face.Width)
		}
	}
}

// Files of blobs that are damage, of all kinds: such an id lacks, also where it
// has to be a tree.
func TestP14_1_Damage(t *testing.T) {
	g := stock(32)
	for _, blob := range []string{crate, pallet, g.blobs[3], g.blobs[4]} {
		for _, other := range []string{"", blob[1:], blob + "\x00", "other", times(api.MaxBlob, "x"), times(api.MaxBlob+1, "x"), g.blobs[5]} {
			s := stored(t, g)
			s.damage(t, g.id(blob), other)
			s.wantRefused(t, fmt.Sprintf("%.10q is %.10q", blob, other), acts(1), 64, api.ErrMissing, g.id(blob))
		}
	}
	s := stored(t, g)
	s.damage(t, g.id(""), "not none")
	s.wantRefused(t, "no bytes", acts(2), 64, api.ErrMissing, g.id(""))
}

// An id whose bytes behind the width are not noughts is never there, though a
// file be named so.
func TestP14_1_IDsBehindTheWidth(t *testing.T) {
	id := idOf(32, crate)
	root := treeOf(aFile(id))
	g := goods{4, []string{crate, root}, []api.Result{res(1, idOf(4, root), 0), res(2, idOf(32, root), 0)}}
	s := stored(t, g, of(blobName("a", id), crate), of(blobName("a", idOf(32, root)), root))
	s.wantRefused(t, "a file", acts(1), 64, api.ErrMissing, id)
	s.wantRefused(t, "a root", acts(2), 64, api.ErrMissing, idOf(32, root))
}

// Files of other names, and of another cache, are no blobs of this one.
func TestP14_1_FilesOfNobody(t *testing.T) {
	g := stock(32)
	s := stored(t, g, of("c.a.b.zz", crate), of(blobName("a", g.id(crate))+"0", crate), of(blobName("b", g.id(crate)), crate))
	s.away(t, blobName("a", g.id(crate)))
	s.wantRefused(t, "another's", acts(1), 64, api.ErrMissing, g.id(crate))
	s.hand(t, "+"+blobName("a", g.id(crate)), crate)
	s.wantRefused(t, "a draft", acts(1), 64, api.ErrMissing, g.id(crate))
}

// The least id of several that lack.
func TestP14_1_TheLeastThatLacks(t *testing.T) {
	g := stock(32)
	ids := []api.ID{g.id(crate), g.id(pallet), g.id("")}
	for set := 1; set < 8; set++ {
		s := stored(t, g)
		gone := map[api.ID]int{}
		for k, id := range ids {
			if set>>k&1 == 1 {
				gone[id]++
				s.away(t, blobName("a", id))
			}
		}
		s.wantRefused(t, fmt.Sprint("set ", set), acts(2, 1), 64, api.ErrMissing, least(gone))
	}
}

// A root that is no tree, a folder that is no tree, the least of several.
func TestP14_1_NoTree(t *testing.T) {
	g := stock(32)
	bad := treeOf(aFolder(g.id(crate)), aFolder(g.id(pallet)))
	g = g.with([]string{bad}, res(5, g.id(crate), 0), res(6, g.id(pallet), 0), res(7, g.id(bad), 0), res(8, g.id(""), 0))
	two := least(map[api.ID]int{g.id(crate): 1, g.id(pallet): 1})
	for _, x := range []struct {
		actions []api.ID
		id      api.ID
	}{
		{acts(5), g.id(crate)},
		{acts(6), g.id(pallet)},
		{acts(8), g.id("")},
		{acts(6, 1, 5), two},
		{acts(7), two},
		{acts(2, 7), two},
	} {
		stored(t, g).wantRefused(t, fmt.Sprint(x.actions[0][0]), x.actions, 64, api.ErrNoTree, x.id)
	}
	// Bytes of a tree's form are one only where a folder or a root names them.
	s := stored(t, g)
	for _, a := range []byte{1, 2, 3, 4} {
		s.wantBuilt(t, "beside", acts(a), 64)
	}
}

// chain are trees, each a folder of the one ahead, the root last.
func chain(width, n int, bottom string) []string {
	trees := []string{bottom}
	for len(trees) < n {
		trees = append(trees, treeOf(aFolder(idOf(width, trees[len(trees)-1]))))
	}
	return trees
}

func TestP14_1_Deep(t *testing.T) {
	bottom := filesTree(32, crate)
	for n := 1; n <= api.MaxDepth+3; n++ {
		trees := chain(32, n, bottom)
		g := goods{32, append(trees, crate), []api.Result{res(1, idOf(32, trees[n-1]), 0)}}
		s := stored(t, g)
		if n <= api.MaxDepth {
			s.wantBuilt(t, fmt.Sprint(n, " trees"), acts(1), 64)
			continue
		}
		deep := idOf(32, trees[n-1-api.MaxDepth])
		s.wantRefused(t, fmt.Sprint(n, " trees"), acts(1), 64, api.ErrDeep, deep)
		s.away(t, blobName("a", deep))
		s.wantRefused(t, fmt.Sprint(n, " trees, it lacks"), acts(1), 64, api.ErrDeep, deep)
	}
}

// circle is a tree of the width 1 with a folder that is itself.
func circle() string {
	for i := 0; ; i++ {
		for first := range 256 {
			data := treeOf(api.Entry{Name: fmt.Sprint("n", i), Kind: api.KindFolder, ID: api.ID{byte(first)}})
			if idOf(1, data) == (api.ID{byte(first)}) {
				return data
			}
		}
	}
}

func TestP14_1_Circle(t *testing.T) {
	round := circle()
	g := goods{1, []string{round}, []api.Result{res(1, idOf(1, round), 0)}}
	stored(t, g).wantRefused(t, "a circle", acts(1), 64, api.ErrDeep, idOf(1, round))
}

// numbered are n short blobs.
func numbered(n int) []string {
	var blobs []string
	for i := range n {
		blobs = append(blobs, fmt.Sprintf("blob %d", i))
	}
	return blobs
}

// MaxBundle ids and one more, of one result and of several, with blobs that they
// share and blobs beside.
func TestP14_1_Many(t *testing.T) {
	blobs := numbered(70)
	first, second := filesTree(32, blobs[:32]...), filesTree(32, blobs[32:62]...)
	longer, sharing := filesTree(32, blobs[32:63]...), filesTree(32, blobs[31:62]...)
	under := treeOf(aFolder(idOf(32, first)), aFolder(idOf(32, filesTree(32, blobs[32:61]...))))
	over := treeOf(aFolder(idOf(32, first)), aFolder(idOf(32, second)))
	g := goods{32, append(blobs, first, second, longer, sharing, under, over, filesTree(32, blobs[32:61]...)), nil}
	for i, root := range []string{first, second, longer, sharing, under, over} {
		g.results = append(g.results, res(byte(i), idOf(32, root), i))
	}
	s := stored(t, g)
	for _, x := range []struct {
		actions []api.ID
		need    int
	}{
		{acts(0), 33},
		{acts(0, 1), 64},
		{acts(0, 3), 64},
		{acts(4), 64},
		{acts(4, 0), 64},
		{acts(0, 2), 65},
		{acts(5), 65},
		{acts(5, 0), 65},
		{acts(0, 1, 3), 65},
		{acts(0, 1, 2, 3, 4, 5), 69},
	} {
		what := fmt.Sprint(x.actions[0][0], " and ", len(x.actions)-1)
		if x.need > api.MaxBundle {
			s.wantRefused(t, what, x.actions, 64, api.ErrMany, api.ID{})
			continue
		}
		face, _ := held(t, s.mustBuild(t, x.actions, 64), 32)
		if len(face.Blobs) != x.need {
			t.Errorf("%s: %d blobs, want %d", what, len(face.Blobs), x.need)
		}
		s.wantBuilt(t, what, x.actions, 64)
	}
}

// rowOf are a tree and its 16 files that have n bytes together, MaxBlob each but
// the last one.
func rowOf(n int) (string, []string) {
	r := noise()
	var blobs []string
	for range 15 {
		blobs = append(blobs, drawn(r, api.MaxBlob))
	}
	left := n - len(filesTree(32, append(slices.Clone(blobs), "last")...)) - 15*api.MaxBlob
	blobs = append(blobs, drawn(r, left))
	return filesTree(32, blobs...), blobs
}

// MaxRow bytes and one more, packed well or not at all, of one result and of two.
func TestP14_1_Long(t *testing.T) {
	none := filesTree(32)
	for _, n := range []int{api.MaxRow - 1, api.MaxRow, api.MaxRow + 1} {
		root, blobs := rowOf(n)
		less, lesser := rowOf(n - len(none))
		for what, g := range map[string]goods{
			"one":  {32, append(blobs, root), []api.Result{res(1, idOf(32, root), 0)}},
			"two":  {32, append(lesser, less, none), []api.Result{res(1, idOf(32, less), 0), res(2, idOf(32, none), 0)}},
			"same": {32, append(blobs, root), []api.Result{res(1, idOf(32, root), 0), res(2, idOf(32, root), 3)}},
		} {
			s := stored(t, g)
			var actions []api.ID
			for _, r := range g.results {
				actions = append(actions, r.Action)
			}
			for _, size := range []int{api.MinBlock, 1000, api.MaxBlock} {
				what := fmt.Sprint(what, ", ", n, " bytes, size ", size)
				if n > api.MaxRow {
					s.wantRefused(t, what, actions, size, api.ErrBundleLong, api.ID{})
					continue
				}
				face, _ := held(t, s.mustBuild(t, actions, size), 32)
				last := face.Blobs[len(face.Blobs)-1]
				if last.At+last.N != n {
					t.Errorf("%s: %d", what, last.At+last.N)
				}
				s.wantBuilt(t, what, actions, size)
			}
		}
	}
}

// Blobs that pack well: it is their bytes that count, not the bundle's.
func TestP14_1_LongThoughItPacks(t *testing.T) {
	var blobs []string
	for i := range 16 {
		blobs = append(blobs, times(api.MaxBlob, string(rune('a'+i))))
	}
	root := filesTree(32, blobs...)
	s := stored(t, goods{32, append(blobs, root), []api.Result{res(1, idOf(32, root), 0)}})
	s.wantRefused(t, "packed", acts(1), 4096, api.ErrBundleLong, api.ID{})
}

// An import that is open is nothing to it, whatever the file holds.
func TestP14_1_AnOpenImport(t *testing.T) {
	s := stored(t, stock(32))
	want := s.mustBuild(t, acts(1, 3), 64)
	for _, journal := range []string{"", "no journal", times(3000, "j")} {
		s.hand(t, "c.a.import", journal)
		if !bytes.Equal(s.mustBuild(t, acts(1, 3), 64), want) {
			t.Error("other bytes")
		}
		wantFault(t, "open", export.Export(s.cache, acts(1, 3), 64, "x"), "export.export", "a", api.OK, api.ID{})
		s.wantBuilt(t, "open", acts(1, 3), 64)
		s.wantExported(t, "open", acts(1, 3), 64, "x")
	}
}

// The plan has not moved on: the power goes off at the second stroke behind.
func TestP14_1_NoStroke(t *testing.T) {
	s := stored(t, stock(32))
	s.disk.Plan(api.Plan{Off: 2, From: 1, To: 9})
	s.mustBuild(t, acts(1), 64)
	export.Build(s.cache, acts(9), 64)
	export.Build(s.cache, acts(1), 15)
	s.mustBuild(t, nil, 64)
	if one, two := s.disk.Create("x"), s.disk.SyncNames(); one != api.ErrFull || two != api.ErrOff {
		t.Errorf("%d, %d", one, two)
	}
}

// Each call looks at the disk anew.
func TestP14_1_AsTheDiskIsThen(t *testing.T) {
	g := stock(32)
	s := stored(t, g)
	s.wantBuilt(t, "first", acts(1), 64)
	if err := s.cache.Set(res(1, g.results[2].Root, 9)); err != nil {
		t.Fatal(err)
	}
	s.wantBuilt(t, "another result", acts(1), 64)
	s.disk.Remove(blobName("a", g.id(crate)))
	s.wantBuilt(t, "one is gone", acts(1), 64)
	s.disk.Crash()
	s.wantBuilt(t, "it is there again", acts(1), 64)
	if s.wantBuilt(t, "the first root", acts(4), 64) != api.OK {
		t.Error("refused")
	}
}
