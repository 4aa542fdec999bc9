package restore_test

import (
	"errors"
	"fmt"
	"math/rand/v2"
	"slices"
	"strings"
	"testing"

	"freight/api"
	"freight/bundle"
	"freight/export"
	"freight/intake"
)

// saidOf is what an error says.
func saidOf(err error) said {
	var fault *api.Fault
	if !errors.As(err, &fault) {
		return said{code: api.Code(err)}
	}
	return said{api.Code(err), fault.ID}
}

// shelf is a cache that two disks have alike, and the goods of a bundle.
type shelf struct {
	goods
	held []string
	ours []api.Result
	more []api.FileBytes
	size int
}

// with is the cache, beside a bundle in f.x.
func (h shelf) with(t testing.TB, data string) *store {
	t.Helper()
	return stored(t, h.width, h.held, h.ours, append(slices.Clone(h.more), of("f.x", data))...)
}

// wantAsImported asks a restore of some results for what an import of the bundle of
// just these and their need says and leaves; it tells what that says.
func (h shelf) wantAsImported(t testing.TB, what string, picked []api.Result, policy int) said {
	t.Helper()
	whole, part := h.bundle(h.size), h.part(picked...).bundle(h.size)
	for _, data := range []string{whole, part} {
		if _, err := bundle.Verify([]byte(data), h.width); err != nil {
			t.Fatalf("%s: %v", what, err)
		}
	}
	one, other := h.with(t, whole), h.with(t, part)
	got, want := saidOf(ask{"f.x", actionsOf(picked...), policy}.of(one)), saidOf(intake.Import(other.cache, "f.x", policy))
	if got != want {
		t.Errorf("%s: %d of %x, an import says %d of %x", what, got.code, got.id[:3], want.code, want.id[:3])
	}
	if !sameFiles(without(one.disk.Files(), "f.x"), without(other.disk.Files(), "f.x")) || one.cache.Pending() != other.cache.Pending() {
		t.Errorf("%s: %s, an import leaves %s", what, show(one.disk.Files()), show(other.disk.Files()))
	}
	if data, _ := shown(one.disk, "f.x"); data != whole {
		t.Errorf("%s: the bundle is another", what)
	}
	if one.disk.Strokes() != other.disk.Strokes() {
		t.Errorf("%s: %d strokes, an import has %d", what, one.disk.Strokes(), other.disk.Strokes())
	}
	return got
}

// shelves are caches of all kinds beside the stock.
func shelves(width int) map[string]shelf {
	g := stock(width)
	changed := slices.Clone(g.results)
	for k := range changed {
		changed[k].Code ^= 1
	}
	list := map[string]shelf{
		"empty":         {},
		"its own":       {held: strangers(width, 5, g.blobs...), ours: resultsFrom(100, 3, api.ID{})},
		"all of it":     {held: g.blobs, ours: g.results},
		"the blobs":     {held: g.blobs},
		"the results":   {ours: g.results},
		"unlike":        {held: g.blobs[:2], ours: changed},
		"one unlike":    {held: g.blobs[2:], ours: changed[2:3]},
		"damage":        {more: []api.FileBytes{of(blobName("a", g.id(crate)), "damage"), of(blobName("a", g.id("")), "damage")}},
		"no table":      {more: []api.FileBytes{of("c.a.table", "none")}},
		"31 results":    {ours: resultsFrom(100, 31, api.ID{})},
		"32 results":    {ours: resultsFrom(100, 32, api.ID{})},
		"124 blobs":     {held: strangers(width, 124, g.blobs...)},
		"128 blobs":     {held: strangers(width, 128, g.blobs...)},
		"open":          {more: []api.FileBytes{of("c.a.import", "open")}},
		"others' files": {more: []api.FileBytes{of("c.b.table", "theirs"), of(blobName("b", g.id(crate)), "theirs"), of("c.b.import", "theirs")}},
	}
	if width < 3 {
		list["clashes"] = shelf{held: []string{clash(width, crate), clash(width, g.blobs[3])}, ours: changed}
		list["one clash"] = shelf{held: []string{clash(width, pallet)}}
		list["a tree that clashes"] = shelf{held: []string{clash(width, g.blobs[5])}, ours: changed[:1]}
	}
	for what, h := range list {
		h.goods = g
		list[what] = h
	}
	return list
}

// Each set of results, each policy, over caches of all kinds.
func TestP17_4_AsAnImport(t *testing.T) {
	met := map[api.Errno]int{}
	for _, width := range []int{1, 2, 8, 32} {
		for what, h := range shelves(width) {
			for set := range 1 << len(h.results) {
				for _, policy := range policies() {
					h.size = []int{16, 40, 4096}[(set+policy)%3]
					what := fmt.Sprint(what, ", width ", width, ", set ", set, ", policy ", policy)
					met[h.wantAsImported(t, what, some(h.results, set), policy).code]++
				}
			}
		}
	}
	for _, code := range []api.Errno{api.OK, api.ErrOpen, api.ErrCache, api.ErrCollision, api.ErrConflict, api.ErrActions, api.ErrBlobs} {
		if met[code] < 20 {
			t.Errorf("%d is met %d times", code, met[code])
		}
	}
}

// drawnGoods are a good bundle: trees over blobs that were drawn ahead of them. What
// clashes with one of these is left out, and what no result needs, too.
func drawnGoods(r *rand.Rand, width int) goods {
	g := goods{width: width}
	heights := map[string]int{}
	add := func(blob string, height int) {
		if _, code := g.get(g.id(blob)); code != api.OK {
			g.blobs = append(g.blobs, blob)
			heights[blob] = height
		}
	}
	for range 1 + r.IntN(8) {
		add(times(r.IntN(40), fmt.Sprint(r.IntN(1000), " ")), 0)
	}
	for range 1 + r.IntN(8) {
		var entries []api.Entry
		height := 1
		for range r.IntN(5) {
			blob := g.blobs[r.IntN(len(g.blobs))]
			switch h := heights[blob]; {
			case h > 0 && h < 6 && r.IntN(4) > 0:
				entries = append(entries, aFolder(g.id(blob)))
				height = max(height, h+1)
			default:
				entries = append(entries, aFile(g.id(blob)))
			}
		}
		add(treeOf(entries...), height)
	}
	for _, blob := range g.blobs {
		if heights[blob] > 0 && r.IntN(3) > 0 {
			g.results = append(g.results, res(byte(10+len(g.results)), g.id(blob), r.IntN(256)))
		}
	}
	return g.part(g.results...)
}

func TestP17_4_Drawn(t *testing.T) {
	r := noise()
	met := map[api.Errno]int{}
	for i := range 3000 {
		width := []int{1, 2, 32}[i%3]
		h := shelf{goods: drawnGoods(r, width), size: 16 + r.IntN(80)}
		for _, b := range h.blobs {
			switch r.IntN(20) {
			case 0, 1, 2, 3, 4:
				h.held = append(h.held, b)
			case 5:
				if width == 1 {
					h.held = append(h.held, clash(width, b))
				}
			}
		}
		for _, result := range h.results {
			if r.IntN(4) == 0 {
				result.Code = (result.Code + r.IntN(2)) % 256
				h.ours = append(h.ours, result)
			}
		}
		picked := some(h.results, int(r.Uint32()))
		met[h.wantAsImported(t, fmt.Sprint("drawn ", i), picked, 1+r.IntN(3)).code]++
	}
	for _, code := range []api.Errno{api.OK, api.ErrCollision, api.ErrConflict} {
		if met[code] < 50 {
			t.Errorf("%d is met %d times", code, met[code])
		}
	}
}

// The greatest bundles: 64 blobs, 32 results, a row of 65536 bytes.
func TestP17_4_TheGreatest(t *testing.T) {
	g := goods{width: 32}
	for k := range 32 {
		own := fmt.Sprint(k, times(2000, " of 32")[:2000-k])
		root := filesTree(32, own)
		g.blobs = append(g.blobs, own, root)
		g.results = append(g.results, res(byte(1+k), g.id(root), k))
	}
	for _, size := range []int{16, 100, 4096} {
		for _, picked := range [][]api.Result{g.results, g.results[:1], g.results[31:], g.results[5:20]} {
			if got := (shelf{goods: g, size: size}).wantAsImported(t, "64 blobs", picked, api.Fail); got.code != api.OK {
				t.Errorf("%d", got.code)
			}
		}
	}
	g = goods{width: 32}
	for k := range 16 {
		own := (times(4096, string([]byte{byte('a' + k)})) + "..")[:4096]
		if k == 15 {
			own = own[:4096-16*len(filesTree(32, own))]
		}
		root := filesTree(32, own)
		g.blobs = append(g.blobs, own, root)
		g.results = append(g.results, res(byte(1+k), g.id(root), k))
	}
	if n := len(strings.Join(g.blobs, "")); n != api.MaxRow {
		t.Fatalf("a row of %d bytes", n)
	}
	for _, picked := range [][]api.Result{g.results, g.results[15:]} {
		if got := (shelf{goods: g, size: 16}).wantAsImported(t, "a full row", picked, api.Keep); got.code != api.OK {
			t.Errorf("%d", got.code)
		}
	}
}

// From one cache's export into another cache, and once more out of it: the bytes
// are those of the part.
func TestP17_4_ThereAndBack(t *testing.T) {
	g := stock(8)
	s := stored(t, 8, g.blobs, g.results)
	if err := export.Export(s.cache, actionsOf(g.results...), 32, "f.x"); err != nil {
		t.Fatal(err)
	}
	for set := range 1 << len(g.results) {
		picked := some(g.results, set)
		w := opened(t, s.disk.Twin(), "b", 8)
		if err := (ask{"f.x", actionsOf(picked...), api.Fail}).of(w); err != nil {
			t.Fatal(err)
		}
		got, err := export.Build(w.cache, actionsOf(picked...), 32)
		if err != nil || string(got) != g.part(picked...).bundle(32) {
			t.Errorf("set %d: %v", set, err)
		}
	}
}

// One part behind the other: at last all of it, as an import leaves it.
func TestP17_4_PartByPart(t *testing.T) {
	g := stock(8)
	whole := shelved(t, g, nil, nil)
	if err := intake.Import(whole.cache, "f.x", api.Fail); err != nil {
		t.Fatal(err)
	}
	for _, order := range [][]byte{{11, 12, 13, 14}, {14, 13, 12, 11}, {13, 11, 14, 12}} {
		s := shelved(t, g, nil, nil)
		for k, action := range order {
			s.want(t, fmt.Sprint(order[:k+1]), ask{"f.x", acts(action), api.Fail}, api.OK, api.ID{})
		}
		if !sameFiles(s.disk.Files(), whole.disk.Files()) {
			t.Errorf("%v: %s", order, show(s.disk.Files()))
		}
	}
}
